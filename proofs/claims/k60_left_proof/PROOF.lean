import PyProof.Rows.All
import Wide.All
import OpenK.AllK
import Wide.FinOn
import HandS.ForMost
import HandS.Wide
import HandS.Evl
import HandS.Walk
import HandS.NoneIn
import HandS.IsInst
import HandS.More
import HandS.Defaults
import HandS.MakeKwOnly
import HandS.Conv
import HandS.Style
import HandS.OwnEq
import HandS.DictComp
import HandS.ExcInit
import HandS.ExcField
import HandS.ExcOwn
import KE.KExcInit
import KE.KExcIs
import HandS.FStr
import HandS.WordsExc
import HandS.ExcIs
import HandS.FStrTup
import HandS.RaiseMore
import HandS.Lambda
import HandS.EndTab
import HandS.TryMany
import HandS.Flow
import HandS.Sort
import PyProof.ReprLen
import PyProof.FitsInt
import PyProof.ReprHeads
import HandS.MethStar
import HandS.SortInts
import HandS.DeepEq
import KE.DataEq
import KE.KDictList
import KE.KStateDown
import HandS.Words
import HandS.HeadHook2
import HandS.HeadEnd
import HandS.HeadWalk
import HandS.Head0
import HandS.Head1
import HandS.Head2
import KE.KNestM
import PySem.Challenge.RW_waitnumbers_k60_registrations_left_behin
set_option Elab.async false
set_option linter.all false
set_option maxRecDepth 100000
set_option maxHeartbeats 4000000
namespace Wn
open PySem PySem.Spec PyProof.Rows L2 Evl
def top (i : Nat) : Stmt := PySem.Challenge.pw_waitnumbers_k60_registrations_left_behin.main.body.getD i (.Pass ⟨0, 0, 0, 0⟩)
def clsBody : Stmt → List Stmt
  | .ClassDef _ _ _ b _ _ _ _ _ _ _ => b
  | _ => []
def meth (i j : Nat) : Stmt := (clsBody (top i)).getD j (.Pass ⟨0, 0, 0, 0⟩)
abbrev sIsInteger : Stmt := top 20
abbrev sIsBetween : Stmt := top 21
abbrev sIsCount : Stmt := top 22
abbrev sIsLabel : Stmt := top 23
abbrev sIsWord : Stmt := top 24
abbrev sRegInit : Stmt := meth 32 0
abbrev sWsInit : Stmt := meth 33 0
abbrev sLabelOf : Stmt := meth 33 2
abbrev sPut : Stmt := meth 33 3
abbrev sAppend : Stmt := meth 33 4
abbrev sNotice : Stmt := meth 33 7
abbrev sReports : Stmt := meth 33 8
abbrev sSettle : Stmt := meth 33 9
abbrev sSysInit : Stmt := meth 37 2
abbrev sNewSource : Stmt := meth 37 4
abbrev sNewSet : Stmt := meth 37 5
abbrev sArrive : Stmt := meth 37 10
abbrev sRead : Stmt := meth 37 12
abbrev sAdd : Stmt := meth 37 13
abbrev sWait : Stmt := meth 37 16
abbrev sRowOf : Stmt := meth 37 24
abbrev sContains : Stmt := meth 37 30
abbrev sTableOf : Stmt := meth 37 32
abbrev sIsTabNum : Stmt := meth 37 33
abbrev sThingAt : Stmt := meth 37 34
abbrev sSourceAt : Stmt := meth 37 35
abbrev sSetAt : Stmt := meth 37 36
abbrev sFreeNum : Stmt := meth 37 37
abbrev sNewThing : Stmt := meth 37 39
abbrev sUnfinished : Stmt := meth 37 42
abbrev sIsReady : Stmt := meth 37 43
abbrev sNotify : Stmt := meth 37 45
abbrev sDrop : Stmt := meth 33 5
abbrev sChange : Stmt := meth 37 14
abbrev sRemove : Stmt := meth 37 15
abbrev sThings : Stmt := meth 37 46
abbrev sNumbersOf : Stmt := meth 37 47
abbrev sNameOf : Stmt := meth 37 48
abbrev sRegistrations : Stmt := meth 37 23
abbrev sDropSource : Stmt := meth 33 6
abbrev sEndThing : Stmt := meth 37 41
abbrev sNoProcessInit : Stmt := meth 2 0
abbrev sNotOpenInit : Stmt := meth 3 0
abbrev sNoNumberInit : Stmt := meth 4 0
abbrev sNotASourceInit : Stmt := meth 6 0
abbrev sNotASetInit : Stmt := meth 7 0
abbrev sBadCountInit : Stmt := meth 8 0
abbrev sBadLabelInit : Stmt := meth 9 0
abbrev sBadWordInit : Stmt := meth 10 0
abbrev sFullInit : Stmt := meth 12 0
abbrev sRegisteredInit : Stmt := meth 14 0
abbrev sTakenInit : Stmt := meth 15 0
abbrev sNoRoomInit : Stmt := meth 13 0
abbrev sFork : Stmt := meth 37 8
abbrev sFreeProc : Stmt := meth 37 38
abbrev sFree : Stmt := meth 37 40
abbrev sClose : Stmt := meth 37 7
abbrev sCopy : Stmt := meth 37 6
abbrev sEnd : Stmt := meth 37 9
abbrev sSetNamed : Stmt := top 26
abbrev sRegNamed : Stmt := top 27
abbrev sHeldTogether : Stmt := top 28
abbrev sIsReached : Stmt := top 29
abbrev sIsSealed : Stmt := top 30
abbrev sBag : Stmt := top 39
abbrev sTake : Stmt := top 40
abbrev sOf : Stmt := top 41
abbrev sDue : Stmt := top 42
abbrev sFound : Stmt := top 43
abbrev sRight : Stmt := top 44
abbrev sLaw : Stmt := top 45
/-! facts of the top, looked up by one kernel run: each fact a test of a part of the heap behind the top -/
abbrev Ck : Type := PySem.W.Frag → Bool
/-- an own error's class -/
def slotB (newId : String) : List (Option Value) → Bool
  | [_, _, _, _, some (.builtin n), _] => decide (n = newId)
  | _ => false
theorem slotB_ok {newId : String} {l : List (Option Value)} (h : slotB newId l = true) : ∃ k0 k1 k2 k3 k5, l = [k0, k1, k2, k3, some (.builtin newId), k5] := by
  unfold slotB at h
  split at h
  · rename_i k0 k1 k2 k3 n k5
    obtain rfl := of_decide_eq_true h
    exact ⟨k0, k1, k2, k3, k5, rfl⟩
  · cases h
def excB (K : PySem.W.Frag) (C : Addr) (bm : List Value) (newId : String) : Bool := match K.lookup C with
  | some ⟨.type t, _, .cls cd, sl⟩ => decide (t = "type") && (decide (cd.mro = .ref C :: bm) && (cd.hasDict && (!cd.hasDel && slotB newId sl.toList)))
  | _ => false
theorem excB_ok {K : PySem.W.Frag} {C : Addr} {bm : List Value} {newId : String} (h : excB K C bm newId = true) :
    ∃ nm q N bs sn sub ab col dd k0 k1 k2 k3 k5, K.lookup C = some (excClassObj nm q C N bs bm true sn sub ab col dd k0 k1 k2 k3 k5 newId) := by
  unfold excB at h
  cases e : K.lookup C with
  | none => rw [e] at h; cases h
  | some o =>
    obtain ⟨oc, od, dt, sl⟩ := o
    rw [e] at h
    cases oc with
    | type t =>
      cases dt with
      | cls cd =>
        obtain ⟨nm, bs, mro, ns, qn, hd, sn, sb, ab, col, del⟩ := cd
        obtain ⟨l⟩ := sl
        have h : (decide (t = "type") && (decide (mro = .ref C :: bm) && (hd && (!del && slotB newId l)))) = true := h
        simp only [Bool.and_eq_true, decide_eq_true_eq, Bool.not_eq_true'] at h
        obtain ⟨rfl, rfl, rfl, rfl, h5⟩ := h
        obtain ⟨k0, k1, k2, k3, k5, rfl⟩ := slotB_ok h5
        exact ⟨_, _, _, _, _, _, _, _, _, k0, k1, k2, k3, k5, rfl⟩
      | _ => cases h
    | _ => cases dt <;> cases h
/-- an int among the module's names, among a class's -/
def intB (o : Option (Option Value)) (i : Int) : Bool := match o with
  | some (some (.int j _)) => decide (j = i)
  | _ => false
theorem intB_ok {o : Option (Option Value)} {i : Int} (h : intB o i = true) : ∃ t, o = some (some (.int i t)) := by
  unfold intB at h
  split at h
  · rename_i j t
    obtain rfl := of_decide_eq_true h
    exact ⟨t, rfl⟩
  · cases h
def atB (K : PySem.W.Frag) (o : Option (Option Value)) (i : Int) : Bool := match o with
  | some (some (.int j t)) => decide (j = i) && decide (PySem.W.specialIn K (.int j t) "__get__" = some none)
  | _ => false
theorem atB_ok {K : PySem.W.Frag} {o : Option (Option Value)} {i : Int} (h : atB K o i = true) : ∃ t, o = some (some (.int i t)) ∧ PySem.W.specialIn K (.int i t) "__get__" = some none := by
  unfold atB at h
  split at h
  · rename_i j t
    simp only [Bool.and_eq_true, decide_eq_true_eq] at h
    obtain ⟨rfl, h2⟩ := h
    exact ⟨t, rfl, h2⟩
  · cases h
/-- a def's code, a code's table -/
def cdV (K : PySem.W.Frag) (f : Addr) : Option Value := match K.lookup f with
  | some ⟨_, _, .func fd, _⟩ => some fd.code
  | _ => none
def cdA (K : PySem.W.Frag) (f : Addr) : Addr := match cdV K f with
  | some (.ref c) => c
  | _ => 0
def ptA (K : PySem.W.Frag) (f : Addr) : Addr := match K.lookup (cdA K f) with
  | some ⟨_, _, .fields vs, _⟩ => (match vs.toList with
    | [_, _, _, _, _, _, _, _, _, _, _, .ref P] => P
    | _ :: _ :: _ :: _ :: _ :: _ :: _ :: _ :: _ :: _ :: _ :: .ref P :: _ => P
    | _ => 0)
  | _ => 0
/-- the texts of a tuple -/
def litB (x y z : Str) : List Value → Bool
  | [.str b _, .str c _, .str d _] => decide (b = x) && (decide (c = y) && decide (d = z))
  | _ => false
theorem litB_ok {x y z : Str} {l : List Value} (h : litB x y z l = true) : ∃ t0 t1 t2, l = [.str x t0, .str y t1, .str z t2] := by
  unfold litB at h
  split at h
  · rename_i b t0 c t1 d t2
    simp only [Bool.and_eq_true, decide_eq_true_eq] at h
    obtain ⟨rfl, rfl, rfl⟩ := h
    exact ⟨t0, t1, t2, rfl⟩
  · cases h
def txtB (K : PySem.W.Frag) (a : Addr) (x y z : Str) : Bool := match K.lookup a with
  | some ⟨.type t, _, .seq its _, _⟩ => decide (t = "tuple") && litB x y z its.toList
  | _ => false
theorem txtB_ok {K : PySem.W.Frag} {a : Addr} {x y z : Str} (h : txtB K a x y z = true) : ∃ dW t0 t1 t2 nW sW, K.lookup a = some ⟨.type "tuple", dW, .seq #[.str x t0, .str y t1, .str z t2] nW, sW⟩ := by
  unfold txtB at h
  cases e : K.lookup a with
  | none => rw [e] at h; cases h
  | some o =>
    obtain ⟨oc, od, dt, sl⟩ := o
    rw [e] at h
    cases oc with
    | type t =>
      cases dt with
      | seq its n =>
        obtain ⟨l⟩ := its
        have h : (decide (t = "tuple") && litB x y z l) = true := h
        simp only [Bool.and_eq_true, decide_eq_true_eq] at h
        obtain ⟨rfl, h2⟩ := h
        obtain ⟨t0, t1, t2, rfl⟩ := litB_ok h2
        exact ⟨_, t0, t1, t2, _, _, rfl⟩
      | _ => cases h
    | _ => cases dt <;> cases h
def clsB (o : Option PySem.W.CFound) (m : String) : Bool := match o with
  | some (.val (.builtin n)) => decide (n = m)
  | _ => false
theorem clsB_ok {o : Option PySem.W.CFound} {m : String} (h : clsB o m = true) : o = some (.val (.builtin m)) := by
  unfold clsB at h
  split at h
  · rename_i n
    obtain rfl := of_decide_eq_true h
    rfl
  · cases h
/-! a def that stands anywhere: a property's getter -/
def gtA (K : PySem.W.Frag) (p : Addr) : Addr := match PySem.W.recIn K p "property" with
  | some (.ref g :: _) => g
  | _ => 0
def gtB (K : PySem.W.Frag) (p : Addr) : Bool := match PySem.W.recIn K p "property" with
  | some (.ref _ :: _) => true
  | _ => false
/-- an int that is read off a class -/
def cvB (o : Option PySem.W.CFound) (i : Int) : Bool := match o with
  | some (.val (.int j _)) => decide (j = i)
  | _ => false
structure DefX where
  ad : PySem.W.Frag → Addr
  d : He.DefD
def fnX (K : PySem.W.Frag) (x : DefX) : He.FnW := match K.lookup (x.ad K) with
  | some ⟨_, _, .func fd, _⟩ => some (fd.name, fd.qualname, fd.params, fd.body, fd.scope, fd.globals, fd.closure, fd.builtins)
  | _ => none
def DefX.ok (K : PySem.W.Frag) (x : DefX) : Bool := PySem.W.keepIn K (.ref (x.ad K)) && (match K.lookup (x.ad K) with
  | some ⟨_, _, .func fd, _⟩ => PySem.W.codeIn K fd.code x.d.qual && (He.dflB K fd.defaults (x.d.dvs K) && He.kwdB K fd.kwdefaults (x.d.kws K))
  | _ => false)
/-! the Hook -/
abbrev Tb : Type := PySem.W.Frag → Addr
def frB (g : Addr → Option Obj) (n : Nat) (ex : PySem.W.Frag → List Addr) (tb : Option Tb) : PySem.W.Frag :=
  let as0 := He.asD g n ++ [cStatics]
  let K0 := He.frG g as0
  let as1 := as0 ++ (ex K0).flatMap fun a => a :: (match g a with
    | some o => He.refsD o
    | none => [])
  match tb with
  | none => He.frG g as1
  | some f => He.frG g (as1.filter fun a => a != f K0)
theorem frB_in {h : Heap} {n : Nat} {ex : PySem.W.Frag → List Addr} {tb : Option Tb} : (frB h.get? n ex tb).In h := by
  cases tb with
  | none => exact He.frG_in
  | some f => exact He.frG_in
def valX (fn : List He.DefD) (fx : List DefX) : He.AlD := (true, fn.map He.DefD.val ++ fx.map fun x => x.d.val)
def obsK (cs : List Ck) (fn : List He.DefD) (fx : List DefX) (K : PySem.W.Frag) : He.AlD := ((cs.all fun c => c K) && ((fn.all fun d => d.ok K) && fx.all fun x => x.ok K), (fn.map fun d => He.fnW K d.at_) ++ fx.map fun x => fnX K x)
def obsB (n : Nat) (ex : PySem.W.Frag → List Addr) (cs : List Ck) (fn : List He.DefD) (fx : List DefX) (tb : Option Tb) (g : Addr → Option Obj) : He.AlD × Option Obj := (obsK cs fn fx (frB g n ex tb), match tb with
  | none => none
  | some f => g (f (frB g n ex tb)))
def valB (fn : List He.DefD) (fx : List DefX) : Option Tb → He.AlD × Option Obj
  | none => (valX fn fx, none)
  | some _ => (valX fn fx, some (PySem.W.tabObj #[]))
def SaysB (cs : List Ck) (fn : List He.DefD) (fx : List DefX) (K : PySem.W.Frag) : Prop := obsK cs fn fx K = valX fn fx
def hookB (n : Nat) (ex : PySem.W.Frag → List Addr) (cs : List Ck) (fn : List He.DefD) (fx : List DefX) (tb : Option Tb) : PySem.W.Hook where
  α := He.AlD × Option Obj
  obs := fun s => obsB n ex cs fn fx tb s.heap.get?
  val := fun _ => valB fn fx tb
  says := fun _ h => ∃ K : PySem.W.Frag, K.In h ∧ SaysB cs fn fx K ∧ ∀ f, tb = some f → h.get? (f K) = some (PySem.W.tabObj #[])
  of := fun _ s e => by
    refine ⟨frB s.heap.get? n ex tb, frB_in, ?_, fun f hf => ?_⟩
    · cases tb with
      | none => exact congrArg Prod.fst e
      | some f => exact congrArg Prod.fst e
    · subst hf
      exact congrArg Prod.snd e
  keeps := fun _ _ _ ⟨K, hK, c, ht⟩ k => ⟨K, PySem.W.Frag.In.keeps hK k, c, fun f hf => k _ _ (ht f hf)⟩
theorem obsB_eq {n : Nat} {ex : PySem.W.Frag → List Addr} {cs : List Ck} {fn : List He.DefD} {fx : List DefX} {tb : Option Tb} {g : Addr → Option Obj} {s : Shared} (h : ∀ a, g a = s.heap.get? a) : obsB n ex cs fn fx tb g = (hookB n ex cs fn fx tb).obs s := by
  have e : g = s.heap.get? := funext h
  rw [e] <;> rfl
section
variable {cs : List Ck} {fn : List He.DefD} {fx : List DefX} {K : PySem.W.Frag}
theorem SaysB.ck (c : SaysB cs fn fx K) (i : Nat) {f : Ck} (h : cs[i]? = some f) : f K = true := by
  have c1 := (He.ba (show ((cs.all fun f => f K) && ((fn.all fun d => d.ok K) && fx.all fun x => x.ok K)) = true from congrArg (fun z : He.AlD => z.1) c)).1
  exact List.all_eq_true.mp c1 f (List.mem_of_getElem? h)
theorem SaysB.split (c : SaysB cs fn fx K) : (fn.map fun d => He.fnW K d.at_) = fn.map He.DefD.val ∧ (fx.map fun x => fnX K x) = fx.map fun x => x.d.val := by
  have e : (fn.map fun d => He.fnW K d.at_) ++ (fx.map fun x => fnX K x) = fn.map He.DefD.val ++ fx.map fun x => x.d.val := congrArg (fun z : He.AlD => z.2) c
  exact List.append_inj e (by rw [List.length_map, List.length_map])
theorem SaysB.def_ (c : SaysB cs fn fx K) (i : Nat) {d : He.DefD} (h : fn[i]? = some d) : ∃ fd, FunD K d.name d.qual d.params d.body d.scope (d.dvs K) (d.kws K) (He.fAd K d.at_) fd := by
  have c2 := (He.ba (He.ba (show ((cs.all fun f => f K) && ((fn.all fun d => d.ok K) && fx.all fun x => x.ok K)) = true from congrArg (fun z : He.AlD => z.1) c)).2).1
  have e2 : (fn.map fun d => He.fnW K d.at_)[i]? = (fn.map He.DefD.val)[i]? := by rw [c.split.1]
  rw [List.getElem?_map, List.getElem?_map, h] at e2
  exact He.DefD.funD (Option.some.inj e2) (List.all_eq_true.mp c2 d (List.mem_of_getElem? h))
end
theorem fun_of {K : PySem.W.Frag} {x qual : Str} {st : Stmt} {f : Addr} {fd : FuncData} (F : FunD K x qual (defArgs st) (defBody st) (defScope st) [] [] f fd) : Fun K x qual st f fd := by
  obtain ⟨oc, od, dV, kV, doc, pm, an, cdv, ct, osl, e, lk, hc, hD, _⟩ := F.ex
  obtain rfl : dV = .none := by
    rcases hD with ⟨_, h⟩ | ⟨h, _⟩
    · exact h
    · exact absurd rfl h
  exact ⟨⟨oc, od, kV, doc, pm, an, cdv, ct, osl, e, lk, hc⟩, F.kp⟩

def ck0 : List Ck := [fun K => decide (PySem.W.nsIn K mainGlobals "System" = some (some (.ref (He.ga K "System")))),
  fun K => PySem.W.plainGet K (He.ga K "System") Str.empty,
  fun K => PySem.W.hasDictIn K (He.ga K "System"),
  fun K => PySem.W.plainOver K (He.ga K "System"),
  fun K => decide (PySem.W.findIn K (.ref (He.ga K "System")) "__setattr__" = some (some (.builtin "object.__setattr__"))),
  fun K => PySem.W.makesIn K (He.ga K "System"),
  fun K => PySem.W.keepIn K (.ref (He.ga K "System")),
  fun K => decide (PySem.W.findIn K (.ref (He.ga K "System")) "process_limit" = some none),
  fun K => decide (PySem.W.findIn K (.ref (He.ga K "System")) "number_limit" = some none),
  fun K => decide (PySem.W.findIn K (.ref (He.ga K "System")) "tables" = some none),
  fun K => decide (PySem.W.findIn K (.ref (He.ga K "System")) "sources" = some none),
  fun K => decide (PySem.W.findIn K (.ref (He.ga K "System")) "sets" = some none),
  fun K => decide (PySem.W.findIn K (.ref (He.ga K "System")) "next_thing" = some none),
  fun K => decide (PySem.W.nsIn K mainGlobals "WaitingSet" = some (some (.ref (He.ga K "WaitingSet")))),
  fun K => PySem.W.plainGet K (He.ga K "WaitingSet") Str.empty,
  fun K => PySem.W.hasDictIn K (He.ga K "WaitingSet"),
  fun K => PySem.W.plainOver K (He.ga K "WaitingSet"),
  fun K => decide (PySem.W.findIn K (.ref (He.ga K "WaitingSet")) "__setattr__" = some (some (.builtin "object.__setattr__"))),
  fun K => PySem.W.makesIn K (He.ga K "WaitingSet"),
  fun K => PySem.W.keepIn K (.ref (He.ga K "WaitingSet")),
  fun K => decide (PySem.W.findIn K (.ref (He.ga K "WaitingSet")) "entries" = some none),
  fun K => decide (PySem.W.findIn K (.ref (He.ga K "WaitingSet")) "queue" = some none),
  fun K => decide (PySem.W.nsIn K mainGlobals "Registration" = some (some (.ref (He.ga K "Registration")))),
  fun K => PySem.W.plainGet K (He.ga K "Registration") Str.empty,
  fun K => PySem.W.hasDictIn K (He.ga K "Registration"),
  fun K => PySem.W.plainOver K (He.ga K "Registration"),
  fun K => decide (PySem.W.findIn K (.ref (He.ga K "Registration")) "__setattr__" = some (some (.builtin "object.__setattr__"))),
  fun K => PySem.W.makesIn K (He.ga K "Registration"),
  fun K => PySem.W.keepIn K (.ref (He.ga K "Registration")),
  fun K => decide (PySem.W.findIn K (.ref (He.ga K "Registration")) "number" = some none)]
def ck1 : List Ck := [fun K => decide (PySem.W.findIn K (.ref (He.ga K "Registration")) "source" = some none),
  fun K => decide (PySem.W.findIn K (.ref (He.ga K "Registration")) "word" = some none),
  fun K => decide (PySem.W.findIn K (.ref (He.ga K "Registration")) "armed" = some none),
  fun K => decide ((He.ga K "WaitingSet") ≠ (He.ga K "Registration")),
  fun K => decide (PySem.W.nsIn K mainGlobals "NoProcess" = some (some (.ref (He.ga K "NoProcess")))),
  fun K => excB K (He.ga K "NoProcess") [.type "LookupError", .type "Exception", .type "BaseException", .type "object"] "LookupError.__new__",
  fun K => decide (PySem.W.findIn K (.ref (He.ga K "NoProcess")) "__setattr__" = some (some (.builtin "object.__setattr__"))),
  fun K => decide (PySem.W.findIn K (.ref (He.ga K "NoProcess")) "__getattribute__" = some (some (.builtin "BaseException.__getattribute__"))),
  fun K => decide (PySem.W.findIn K (.ref (He.ga K "NoProcess")) "__getattr__" = some none),
  fun K => decide (PySem.W.findIn K (.ref (He.ga K "NoProcess")) "process" = some none),
  fun K => clsB (PySem.W.findCls K (.type "LookupError") (.type "type") "__init__") "LookupError.__init__",
  fun K => PySem.W.keepIn K (.ref (He.ga K "NoProcess")),
  fun K => decide (PySem.W.subIn K (.ref (He.ga K "NoProcess")) (.type "BaseException") = some true),
  fun K => decide (PySem.W.typeIn K (.ref (He.ga K "NoProcess")) = some (.type "type")),
  fun K => PySem.W.hasDictIn K (He.ga K "NoProcess"),
  fun K => decide (PySem.W.exmOne K (.ref (He.ga K "NoProcess")) (.ref (He.ga K "NoProcess")) = some true),
  fun K => decide (PySem.W.findIn K (.ref (He.ga K "NoProcess")) "__class__" = some (some (.builtin "object.__class__"))),
  fun K => decide (PySem.W.mroIn K (He.ga K "NoProcess") (.type "object") = some true),
  fun K => (PySem.W.clsIn K (He.ga K "NoProcess")).isSome,
  fun K => decide (PySem.W.kitOne K (.ref (He.ga K "NoProcess")) (.type "LookupError") = some true),
  fun K => decide (PySem.W.specialIn K (.builtin "object.__class__") "__get__" = some (some (.builtin "getset_descriptor.__get__"))),
  fun K => decide (PySem.W.takesIn K (.builtin "object.__class__") = some true),
  fun K => decide (PySem.W.nsIn K mainGlobals "NotOpen" = some (some (.ref (He.ga K "NotOpen")))),
  fun K => excB K (He.ga K "NotOpen") [.type "LookupError", .type "Exception", .type "BaseException", .type "object"] "LookupError.__new__",
  fun K => decide (PySem.W.findIn K (.ref (He.ga K "NotOpen")) "__setattr__" = some (some (.builtin "object.__setattr__"))),
  fun K => decide (PySem.W.findIn K (.ref (He.ga K "NotOpen")) "__getattribute__" = some (some (.builtin "BaseException.__getattribute__"))),
  fun K => decide (PySem.W.findIn K (.ref (He.ga K "NotOpen")) "__getattr__" = some none),
  fun K => decide (PySem.W.findIn K (.ref (He.ga K "NotOpen")) "number" = some none),
  fun K => clsB (PySem.W.findCls K (.type "LookupError") (.type "type") "__init__") "LookupError.__init__",
  fun K => PySem.W.keepIn K (.ref (He.ga K "NotOpen"))]
def ck2 : List Ck := [fun K => decide (PySem.W.subIn K (.ref (He.ga K "NotOpen")) (.type "BaseException") = some true),
  fun K => decide (PySem.W.typeIn K (.ref (He.ga K "NotOpen")) = some (.type "type")),
  fun K => PySem.W.hasDictIn K (He.ga K "NotOpen"),
  fun K => decide (PySem.W.exmOne K (.ref (He.ga K "NotOpen")) (.ref (He.ga K "NotOpen")) = some true),
  fun K => decide (PySem.W.findIn K (.ref (He.ga K "NotOpen")) "__class__" = some (some (.builtin "object.__class__"))),
  fun K => decide (PySem.W.mroIn K (He.ga K "NotOpen") (.type "object") = some true),
  fun K => (PySem.W.clsIn K (He.ga K "NotOpen")).isSome,
  fun K => decide (PySem.W.kitOne K (.ref (He.ga K "NotOpen")) (.type "LookupError") = some true),
  fun K => decide (PySem.W.nsIn K mainGlobals "NoNumber" = some (some (.ref (He.ga K "NoNumber")))),
  fun K => excB K (He.ga K "NoNumber") [.type "LookupError", .type "Exception", .type "BaseException", .type "object"] "LookupError.__new__",
  fun K => decide (PySem.W.findIn K (.ref (He.ga K "NoNumber")) "__setattr__" = some (some (.builtin "object.__setattr__"))),
  fun K => decide (PySem.W.findIn K (.ref (He.ga K "NoNumber")) "__getattribute__" = some (some (.builtin "BaseException.__getattribute__"))),
  fun K => decide (PySem.W.findIn K (.ref (He.ga K "NoNumber")) "__getattr__" = some none),
  fun K => decide (PySem.W.findIn K (.ref (He.ga K "NoNumber")) "number" = some none),
  fun K => clsB (PySem.W.findCls K (.type "LookupError") (.type "type") "__init__") "LookupError.__init__",
  fun K => PySem.W.keepIn K (.ref (He.ga K "NoNumber")),
  fun K => decide (PySem.W.subIn K (.ref (He.ga K "NoNumber")) (.type "BaseException") = some true),
  fun K => decide (PySem.W.typeIn K (.ref (He.ga K "NoNumber")) = some (.type "type")),
  fun K => PySem.W.hasDictIn K (He.ga K "NoNumber"),
  fun K => decide (PySem.W.exmOne K (.ref (He.ga K "NoNumber")) (.ref (He.ga K "NoNumber")) = some true),
  fun K => decide (PySem.W.findIn K (.ref (He.ga K "NoNumber")) "__class__" = some (some (.builtin "object.__class__"))),
  fun K => decide (PySem.W.mroIn K (He.ga K "NoNumber") (.type "object") = some true),
  fun K => (PySem.W.clsIn K (He.ga K "NoNumber")).isSome,
  fun K => decide (PySem.W.kitOne K (.ref (He.ga K "NoNumber")) (.type "LookupError") = some true),
  fun K => decide (PySem.W.nsIn K mainGlobals "NotASource" = some (some (.ref (He.ga K "NotASource")))),
  fun K => excB K (He.ga K "NotASource") [.type "TypeError", .type "Exception", .type "BaseException", .type "object"] "TypeError.__new__",
  fun K => decide (PySem.W.findIn K (.ref (He.ga K "NotASource")) "__setattr__" = some (some (.builtin "object.__setattr__"))),
  fun K => decide (PySem.W.findIn K (.ref (He.ga K "NotASource")) "__getattribute__" = some (some (.builtin "BaseException.__getattribute__"))),
  fun K => decide (PySem.W.findIn K (.ref (He.ga K "NotASource")) "__getattr__" = some none),
  fun K => decide (PySem.W.findIn K (.ref (He.ga K "NotASource")) "number" = some none)]
def ck3 : List Ck := [fun K => clsB (PySem.W.findCls K (.type "TypeError") (.type "type") "__init__") "TypeError.__init__",
  fun K => PySem.W.keepIn K (.ref (He.ga K "NotASource")),
  fun K => decide (PySem.W.subIn K (.ref (He.ga K "NotASource")) (.type "BaseException") = some true),
  fun K => decide (PySem.W.typeIn K (.ref (He.ga K "NotASource")) = some (.type "type")),
  fun K => PySem.W.hasDictIn K (He.ga K "NotASource"),
  fun K => decide (PySem.W.exmOne K (.ref (He.ga K "NotASource")) (.ref (He.ga K "NotASource")) = some true),
  fun K => decide (PySem.W.findIn K (.ref (He.ga K "NotASource")) "__class__" = some (some (.builtin "object.__class__"))),
  fun K => decide (PySem.W.mroIn K (He.ga K "NotASource") (.type "object") = some true),
  fun K => (PySem.W.clsIn K (He.ga K "NotASource")).isSome,
  fun K => decide (PySem.W.kitOne K (.ref (He.ga K "NotASource")) (.type "TypeError") = some true),
  fun K => decide (PySem.W.nsIn K mainGlobals "NotASet" = some (some (.ref (He.ga K "NotASet")))),
  fun K => excB K (He.ga K "NotASet") [.type "TypeError", .type "Exception", .type "BaseException", .type "object"] "TypeError.__new__",
  fun K => decide (PySem.W.findIn K (.ref (He.ga K "NotASet")) "__setattr__" = some (some (.builtin "object.__setattr__"))),
  fun K => decide (PySem.W.findIn K (.ref (He.ga K "NotASet")) "__getattribute__" = some (some (.builtin "BaseException.__getattribute__"))),
  fun K => decide (PySem.W.findIn K (.ref (He.ga K "NotASet")) "__getattr__" = some none),
  fun K => decide (PySem.W.findIn K (.ref (He.ga K "NotASet")) "number" = some none),
  fun K => clsB (PySem.W.findCls K (.type "TypeError") (.type "type") "__init__") "TypeError.__init__",
  fun K => PySem.W.keepIn K (.ref (He.ga K "NotASet")),
  fun K => decide (PySem.W.subIn K (.ref (He.ga K "NotASet")) (.type "BaseException") = some true),
  fun K => decide (PySem.W.typeIn K (.ref (He.ga K "NotASet")) = some (.type "type")),
  fun K => PySem.W.hasDictIn K (He.ga K "NotASet"),
  fun K => decide (PySem.W.exmOne K (.ref (He.ga K "NotASet")) (.ref (He.ga K "NotASet")) = some true),
  fun K => decide (PySem.W.findIn K (.ref (He.ga K "NotASet")) "__class__" = some (some (.builtin "object.__class__"))),
  fun K => decide (PySem.W.mroIn K (He.ga K "NotASet") (.type "object") = some true),
  fun K => (PySem.W.clsIn K (He.ga K "NotASet")).isSome,
  fun K => decide (PySem.W.kitOne K (.ref (He.ga K "NotASet")) (.type "TypeError") = some true),
  fun K => decide (PySem.W.nsIn K mainGlobals "Full" = some (some (.ref (He.ga K "Full")))),
  fun K => excB K (He.ga K "Full") [.type "OverflowError", .type "ArithmeticError", .type "Exception", .type "BaseException", .type "object"] "OverflowError.__new__",
  fun K => decide (PySem.W.findIn K (.ref (He.ga K "Full")) "__setattr__" = some (some (.builtin "object.__setattr__"))),
  fun K => decide (PySem.W.findIn K (.ref (He.ga K "Full")) "__getattribute__" = some (some (.builtin "BaseException.__getattribute__")))]
def ck4 : List Ck := [fun K => decide (PySem.W.findIn K (.ref (He.ga K "Full")) "__getattr__" = some none),
  fun K => decide (PySem.W.findIn K (.ref (He.ga K "Full")) "process" = some none),
  fun K => clsB (PySem.W.findCls K (.type "OverflowError") (.type "type") "__init__") "OverflowError.__init__",
  fun K => PySem.W.keepIn K (.ref (He.ga K "Full")),
  fun K => decide (PySem.W.subIn K (.ref (He.ga K "Full")) (.type "BaseException") = some true),
  fun K => decide (PySem.W.typeIn K (.ref (He.ga K "Full")) = some (.type "type")),
  fun K => PySem.W.hasDictIn K (He.ga K "Full"),
  fun K => decide (PySem.W.exmOne K (.ref (He.ga K "Full")) (.ref (He.ga K "Full")) = some true),
  fun K => decide (PySem.W.findIn K (.ref (He.ga K "Full")) "__class__" = some (some (.builtin "object.__class__"))),
  fun K => decide (PySem.W.mroIn K (He.ga K "Full") (.type "object") = some true),
  fun K => (PySem.W.clsIn K (He.ga K "Full")).isSome,
  fun K => decide (PySem.W.kitOne K (.ref (He.ga K "Full")) (.type "OverflowError") = some true),
  fun K => decide (PySem.W.nsIn K mainGlobals "NoRoom" = some (some (.ref (He.ga K "NoRoom")))),
  fun K => excB K (He.ga K "NoRoom") [.type "OverflowError", .type "ArithmeticError", .type "Exception", .type "BaseException", .type "object"] "OverflowError.__new__",
  fun K => decide (PySem.W.findIn K (.ref (He.ga K "NoRoom")) "__setattr__" = some (some (.builtin "object.__setattr__"))),
  fun K => decide (PySem.W.findIn K (.ref (He.ga K "NoRoom")) "__getattribute__" = some (some (.builtin "BaseException.__getattribute__"))),
  fun K => decide (PySem.W.findIn K (.ref (He.ga K "NoRoom")) "__getattr__" = some none),
  fun K => clsB (PySem.W.findCls K (.type "OverflowError") (.type "type") "__init__") "OverflowError.__init__",
  fun K => PySem.W.keepIn K (.ref (He.ga K "NoRoom")),
  fun K => decide (PySem.W.subIn K (.ref (He.ga K "NoRoom")) (.type "BaseException") = some true),
  fun K => decide (PySem.W.typeIn K (.ref (He.ga K "NoRoom")) = some (.type "type")),
  fun K => PySem.W.hasDictIn K (He.ga K "NoRoom"),
  fun K => decide (PySem.W.exmOne K (.ref (He.ga K "NoRoom")) (.ref (He.ga K "NoRoom")) = some true),
  fun K => decide (PySem.W.findIn K (.ref (He.ga K "NoRoom")) "__class__" = some (some (.builtin "object.__class__"))),
  fun K => decide (PySem.W.mroIn K (He.ga K "NoRoom") (.type "object") = some true),
  fun K => (PySem.W.clsIn K (He.ga K "NoRoom")).isSome,
  fun K => decide (PySem.W.kitOne K (.ref (He.ga K "NoRoom")) (.type "OverflowError") = some true),
  fun K => decide (PySem.W.nsIn K mainGlobals "BadCount" = some (some (.ref (He.ga K "BadCount")))),
  fun K => excB K (He.ga K "BadCount") [.type "ValueError", .type "Exception", .type "BaseException", .type "object"] "ValueError.__new__",
  fun K => decide (PySem.W.findIn K (.ref (He.ga K "BadCount")) "__setattr__" = some (some (.builtin "object.__setattr__")))]
def ck5 : List Ck := [fun K => decide (PySem.W.findIn K (.ref (He.ga K "BadCount")) "__getattribute__" = some (some (.builtin "BaseException.__getattribute__"))),
  fun K => decide (PySem.W.findIn K (.ref (He.ga K "BadCount")) "__getattr__" = some none),
  fun K => decide (PySem.W.findIn K (.ref (He.ga K "BadCount")) "count" = some none),
  fun K => clsB (PySem.W.findCls K (.type "ValueError") (.type "type") "__init__") "ValueError.__init__",
  fun K => PySem.W.keepIn K (.ref (He.ga K "BadCount")),
  fun K => decide (PySem.W.subIn K (.ref (He.ga K "BadCount")) (.type "BaseException") = some true),
  fun K => decide (PySem.W.typeIn K (.ref (He.ga K "BadCount")) = some (.type "type")),
  fun K => PySem.W.hasDictIn K (He.ga K "BadCount"),
  fun K => decide (PySem.W.exmOne K (.ref (He.ga K "BadCount")) (.ref (He.ga K "BadCount")) = some true),
  fun K => decide (PySem.W.findIn K (.ref (He.ga K "BadCount")) "__class__" = some (some (.builtin "object.__class__"))),
  fun K => decide (PySem.W.mroIn K (He.ga K "BadCount") (.type "object") = some true),
  fun K => (PySem.W.clsIn K (He.ga K "BadCount")).isSome,
  fun K => decide (PySem.W.kitOne K (.ref (He.ga K "BadCount")) (.type "ValueError") = some true),
  fun K => decide (PySem.W.nsIn K mainGlobals "BadLabel" = some (some (.ref (He.ga K "BadLabel")))),
  fun K => excB K (He.ga K "BadLabel") [.type "ValueError", .type "Exception", .type "BaseException", .type "object"] "ValueError.__new__",
  fun K => decide (PySem.W.findIn K (.ref (He.ga K "BadLabel")) "__setattr__" = some (some (.builtin "object.__setattr__"))),
  fun K => decide (PySem.W.findIn K (.ref (He.ga K "BadLabel")) "__getattribute__" = some (some (.builtin "BaseException.__getattribute__"))),
  fun K => decide (PySem.W.findIn K (.ref (He.ga K "BadLabel")) "__getattr__" = some none),
  fun K => decide (PySem.W.findIn K (.ref (He.ga K "BadLabel")) "label" = some none),
  fun K => clsB (PySem.W.findCls K (.type "ValueError") (.type "type") "__init__") "ValueError.__init__",
  fun K => PySem.W.keepIn K (.ref (He.ga K "BadLabel")),
  fun K => decide (PySem.W.subIn K (.ref (He.ga K "BadLabel")) (.type "BaseException") = some true),
  fun K => decide (PySem.W.typeIn K (.ref (He.ga K "BadLabel")) = some (.type "type")),
  fun K => PySem.W.hasDictIn K (He.ga K "BadLabel"),
  fun K => decide (PySem.W.exmOne K (.ref (He.ga K "BadLabel")) (.ref (He.ga K "BadLabel")) = some true),
  fun K => decide (PySem.W.findIn K (.ref (He.ga K "BadLabel")) "__class__" = some (some (.builtin "object.__class__"))),
  fun K => decide (PySem.W.mroIn K (He.ga K "BadLabel") (.type "object") = some true),
  fun K => (PySem.W.clsIn K (He.ga K "BadLabel")).isSome,
  fun K => decide (PySem.W.kitOne K (.ref (He.ga K "BadLabel")) (.type "ValueError") = some true),
  fun K => decide (PySem.W.nsIn K mainGlobals "BadWord" = some (some (.ref (He.ga K "BadWord"))))]
def ck6 : List Ck := [fun K => excB K (He.ga K "BadWord") [.type "ValueError", .type "Exception", .type "BaseException", .type "object"] "ValueError.__new__",
  fun K => decide (PySem.W.findIn K (.ref (He.ga K "BadWord")) "__setattr__" = some (some (.builtin "object.__setattr__"))),
  fun K => decide (PySem.W.findIn K (.ref (He.ga K "BadWord")) "__getattribute__" = some (some (.builtin "BaseException.__getattribute__"))),
  fun K => decide (PySem.W.findIn K (.ref (He.ga K "BadWord")) "__getattr__" = some none),
  fun K => decide (PySem.W.findIn K (.ref (He.ga K "BadWord")) "word" = some none),
  fun K => clsB (PySem.W.findCls K (.type "ValueError") (.type "type") "__init__") "ValueError.__init__",
  fun K => PySem.W.keepIn K (.ref (He.ga K "BadWord")),
  fun K => decide (PySem.W.subIn K (.ref (He.ga K "BadWord")) (.type "BaseException") = some true),
  fun K => decide (PySem.W.typeIn K (.ref (He.ga K "BadWord")) = some (.type "type")),
  fun K => PySem.W.hasDictIn K (He.ga K "BadWord"),
  fun K => decide (PySem.W.exmOne K (.ref (He.ga K "BadWord")) (.ref (He.ga K "BadWord")) = some true),
  fun K => decide (PySem.W.findIn K (.ref (He.ga K "BadWord")) "__class__" = some (some (.builtin "object.__class__"))),
  fun K => decide (PySem.W.mroIn K (He.ga K "BadWord") (.type "object") = some true),
  fun K => (PySem.W.clsIn K (He.ga K "BadWord")).isSome,
  fun K => decide (PySem.W.kitOne K (.ref (He.ga K "BadWord")) (.type "ValueError") = some true),
  fun K => decide (PySem.W.nsIn K mainGlobals "Registered" = some (some (.ref (He.ga K "Registered")))),
  fun K => excB K (He.ga K "Registered") [.type "RuntimeError", .type "Exception", .type "BaseException", .type "object"] "RuntimeError.__new__",
  fun K => decide (PySem.W.findIn K (.ref (He.ga K "Registered")) "__setattr__" = some (some (.builtin "object.__setattr__"))),
  fun K => decide (PySem.W.findIn K (.ref (He.ga K "Registered")) "__getattribute__" = some (some (.builtin "BaseException.__getattribute__"))),
  fun K => decide (PySem.W.findIn K (.ref (He.ga K "Registered")) "__getattr__" = some none),
  fun K => decide (PySem.W.findIn K (.ref (He.ga K "Registered")) "number" = some none),
  fun K => clsB (PySem.W.findCls K (.type "RuntimeError") (.type "type") "__init__") "RuntimeError.__init__",
  fun K => PySem.W.keepIn K (.ref (He.ga K "Registered")),
  fun K => decide (PySem.W.subIn K (.ref (He.ga K "Registered")) (.type "BaseException") = some true),
  fun K => decide (PySem.W.typeIn K (.ref (He.ga K "Registered")) = some (.type "type")),
  fun K => PySem.W.hasDictIn K (He.ga K "Registered"),
  fun K => decide (PySem.W.exmOne K (.ref (He.ga K "Registered")) (.ref (He.ga K "Registered")) = some true),
  fun K => decide (PySem.W.findIn K (.ref (He.ga K "Registered")) "__class__" = some (some (.builtin "object.__class__"))),
  fun K => decide (PySem.W.mroIn K (He.ga K "Registered") (.type "object") = some true),
  fun K => (PySem.W.clsIn K (He.ga K "Registered")).isSome]
def ck7 : List Ck := [fun K => decide (PySem.W.kitOne K (.ref (He.ga K "Registered")) (.type "RuntimeError") = some true),
  fun K => decide (PySem.W.nsIn K mainGlobals "Taken" = some (some (.ref (He.ga K "Taken")))),
  fun K => excB K (He.ga K "Taken") [.type "RuntimeError", .type "Exception", .type "BaseException", .type "object"] "RuntimeError.__new__",
  fun K => decide (PySem.W.findIn K (.ref (He.ga K "Taken")) "__setattr__" = some (some (.builtin "object.__setattr__"))),
  fun K => decide (PySem.W.findIn K (.ref (He.ga K "Taken")) "__getattribute__" = some (some (.builtin "BaseException.__getattribute__"))),
  fun K => decide (PySem.W.findIn K (.ref (He.ga K "Taken")) "__getattr__" = some none),
  fun K => decide (PySem.W.findIn K (.ref (He.ga K "Taken")) "label" = some none),
  fun K => clsB (PySem.W.findCls K (.type "RuntimeError") (.type "type") "__init__") "RuntimeError.__init__",
  fun K => PySem.W.keepIn K (.ref (He.ga K "Taken")),
  fun K => decide (PySem.W.subIn K (.ref (He.ga K "Taken")) (.type "BaseException") = some true),
  fun K => decide (PySem.W.typeIn K (.ref (He.ga K "Taken")) = some (.type "type")),
  fun K => PySem.W.hasDictIn K (He.ga K "Taken"),
  fun K => decide (PySem.W.exmOne K (.ref (He.ga K "Taken")) (.ref (He.ga K "Taken")) = some true),
  fun K => decide (PySem.W.findIn K (.ref (He.ga K "Taken")) "__class__" = some (some (.builtin "object.__class__"))),
  fun K => decide (PySem.W.mroIn K (He.ga K "Taken") (.type "object") = some true),
  fun K => (PySem.W.clsIn K (He.ga K "Taken")).isSome,
  fun K => decide (PySem.W.kitOne K (.ref (He.ga K "Taken")) (.type "RuntimeError") = some true),
  fun K => decide (PySem.W.nsIn K mainGlobals "is_integer" = some (some (.ref (He.ga K "is_integer")))),
  fun K => PySem.W.keepIn K (.ref (He.ga K "is_integer")),
  fun K => decide (PySem.W.nsIn K mainGlobals "is_between" = some (some (.ref (He.ga K "is_between")))),
  fun K => PySem.W.keepIn K (.ref (He.ga K "is_between")),
  fun K => decide (PySem.W.nsIn K mainGlobals "is_label" = some (some (.ref (He.ga K "is_label")))),
  fun K => PySem.W.keepIn K (.ref (He.ga K "is_label")),
  fun K => decide (PySem.W.nsIn K mainGlobals "is_word" = some (some (.ref (He.ga K "is_word")))),
  fun K => PySem.W.keepIn K (.ref (He.ga K "is_word")),
  fun K => decide (PySem.W.nsIn K mainGlobals "set_named" = some (some (.ref (He.ga K "set_named")))),
  fun K => PySem.W.keepIn K (.ref (He.ga K "set_named")),
  fun K => decide (PySem.W.nsIn K mainGlobals "registration_named" = some (some (.ref (He.ga K "registration_named")))),
  fun K => PySem.W.keepIn K (.ref (He.ga K "registration_named")),
  fun K => decide (PySem.W.nsIn K mainGlobals "are_held_together" = some (some (.ref (He.ga K "are_held_together"))))]
def ck8 : List Ck := [fun K => PySem.W.keepIn K (.ref (He.ga K "are_held_together")),
  fun K => decide (PySem.W.nsIn K mainGlobals "is_reached" = some (some (.ref (He.ga K "is_reached")))),
  fun K => PySem.W.keepIn K (.ref (He.ga K "is_reached")),
  fun K => decide (PySem.W.nsIn K mainGlobals "is_sealed" = some (some (.ref (He.ga K "is_sealed")))),
  fun K => PySem.W.keepIn K (.ref (He.ga K "is_sealed")),
  fun K => decide (PySem.W.nsIn K mainGlobals "_law_bag" = some (some (.ref (He.ga K "_law_bag")))),
  fun K => PySem.W.keepIn K (.ref (He.ga K "_law_bag")),
  fun K => decide (PySem.W.nsIn K mainGlobals "_law_take" = some (some (.ref (He.ga K "_law_take")))),
  fun K => PySem.W.keepIn K (.ref (He.ga K "_law_take")),
  fun K => decide (PySem.W.nsIn K mainGlobals "_law_of" = some (some (.ref (He.ga K "_law_of")))),
  fun K => PySem.W.keepIn K (.ref (He.ga K "_law_of")),
  fun K => decide (PySem.W.nsIn K mainGlobals "_law_due" = some (some (.ref (He.ga K "_law_due")))),
  fun K => PySem.W.keepIn K (.ref (He.ga K "_law_due")),
  fun K => decide (PySem.W.nsIn K mainGlobals "_law_found" = some (some (.ref (He.ga K "_law_found")))),
  fun K => PySem.W.keepIn K (.ref (He.ga K "_law_found")),
  fun K => decide (PySem.W.nsIn K mainGlobals "_law_right" = some (some (.ref (He.ga K "_law_right")))),
  fun K => PySem.W.keepIn K (.ref (He.ga K "_law_right")),
  fun K => decide (PySem.W.nsIn K mainGlobals "law" = some (some (.ref (He.ga K "law")))),
  fun K => PySem.W.keepIn K (.ref (He.ga K "law")),
  fun K => decide (PySem.W.findIn K (.ref (He.ga K "NoProcess")) "__init__" = some (some (.ref (He.ma K (He.ga K "NoProcess") "__init__")))),
  fun K => PySem.W.isFn K (.ref (He.ma K (He.ga K "NoProcess") "__init__")),
  fun K => PySem.W.keepIn K (.ref (He.ma K (He.ga K "NoProcess") "__init__")),
  fun K => decide (PySem.W.findIn K (.ref (He.ga K "NotOpen")) "__init__" = some (some (.ref (He.ma K (He.ga K "NotOpen") "__init__")))),
  fun K => PySem.W.isFn K (.ref (He.ma K (He.ga K "NotOpen") "__init__")),
  fun K => PySem.W.keepIn K (.ref (He.ma K (He.ga K "NotOpen") "__init__")),
  fun K => decide (PySem.W.findIn K (.ref (He.ga K "NoNumber")) "__init__" = some (some (.ref (He.ma K (He.ga K "NoNumber") "__init__")))),
  fun K => PySem.W.isFn K (.ref (He.ma K (He.ga K "NoNumber") "__init__")),
  fun K => PySem.W.keepIn K (.ref (He.ma K (He.ga K "NoNumber") "__init__")),
  fun K => decide (PySem.W.findIn K (.ref (He.ga K "NotASource")) "__init__" = some (some (.ref (He.ma K (He.ga K "NotASource") "__init__")))),
  fun K => PySem.W.isFn K (.ref (He.ma K (He.ga K "NotASource") "__init__"))]
def ck9 : List Ck := [fun K => PySem.W.keepIn K (.ref (He.ma K (He.ga K "NotASource") "__init__")),
  fun K => decide (PySem.W.findIn K (.ref (He.ga K "NotASet")) "__init__" = some (some (.ref (He.ma K (He.ga K "NotASet") "__init__")))),
  fun K => PySem.W.isFn K (.ref (He.ma K (He.ga K "NotASet") "__init__")),
  fun K => PySem.W.keepIn K (.ref (He.ma K (He.ga K "NotASet") "__init__")),
  fun K => decide (PySem.W.findIn K (.ref (He.ga K "Full")) "__init__" = some (some (.ref (He.ma K (He.ga K "Full") "__init__")))),
  fun K => PySem.W.isFn K (.ref (He.ma K (He.ga K "Full") "__init__")),
  fun K => PySem.W.keepIn K (.ref (He.ma K (He.ga K "Full") "__init__")),
  fun K => decide (PySem.W.findIn K (.ref (He.ga K "NoRoom")) "__init__" = some (some (.ref (He.ma K (He.ga K "NoRoom") "__init__")))),
  fun K => PySem.W.isFn K (.ref (He.ma K (He.ga K "NoRoom") "__init__")),
  fun K => PySem.W.keepIn K (.ref (He.ma K (He.ga K "NoRoom") "__init__")),
  fun K => decide (PySem.W.findIn K (.ref (He.ga K "BadCount")) "__init__" = some (some (.ref (He.ma K (He.ga K "BadCount") "__init__")))),
  fun K => PySem.W.isFn K (.ref (He.ma K (He.ga K "BadCount") "__init__")),
  fun K => PySem.W.keepIn K (.ref (He.ma K (He.ga K "BadCount") "__init__")),
  fun K => decide (PySem.W.findIn K (.ref (He.ga K "BadLabel")) "__init__" = some (some (.ref (He.ma K (He.ga K "BadLabel") "__init__")))),
  fun K => PySem.W.isFn K (.ref (He.ma K (He.ga K "BadLabel") "__init__")),
  fun K => PySem.W.keepIn K (.ref (He.ma K (He.ga K "BadLabel") "__init__")),
  fun K => decide (PySem.W.findIn K (.ref (He.ga K "BadWord")) "__init__" = some (some (.ref (He.ma K (He.ga K "BadWord") "__init__")))),
  fun K => PySem.W.isFn K (.ref (He.ma K (He.ga K "BadWord") "__init__")),
  fun K => PySem.W.keepIn K (.ref (He.ma K (He.ga K "BadWord") "__init__")),
  fun K => decide (PySem.W.findIn K (.ref (He.ga K "Registered")) "__init__" = some (some (.ref (He.ma K (He.ga K "Registered") "__init__")))),
  fun K => PySem.W.isFn K (.ref (He.ma K (He.ga K "Registered") "__init__")),
  fun K => PySem.W.keepIn K (.ref (He.ma K (He.ga K "Registered") "__init__")),
  fun K => decide (PySem.W.findIn K (.ref (He.ga K "Taken")) "__init__" = some (some (.ref (He.ma K (He.ga K "Taken") "__init__")))),
  fun K => PySem.W.isFn K (.ref (He.ma K (He.ga K "Taken") "__init__")),
  fun K => PySem.W.keepIn K (.ref (He.ma K (He.ga K "Taken") "__init__")),
  fun K => decide (PySem.W.findIn K (.ref (He.ga K "Registration")) "__init__" = some (some (.ref (He.ma K (He.ga K "Registration") "__init__")))),
  fun K => PySem.W.isFn K (.ref (He.ma K (He.ga K "Registration") "__init__")),
  fun K => PySem.W.keepIn K (.ref (He.ma K (He.ga K "Registration") "__init__")),
  fun K => decide (PySem.W.findIn K (.ref (He.ga K "WaitingSet")) "__init__" = some (some (.ref (He.ma K (He.ga K "WaitingSet") "__init__")))),
  fun K => PySem.W.isFn K (.ref (He.ma K (He.ga K "WaitingSet") "__init__"))]
def ck10 : List Ck := [fun K => PySem.W.keepIn K (.ref (He.ma K (He.ga K "WaitingSet") "__init__")),
  fun K => decide (PySem.W.findIn K (.ref (He.ga K "WaitingSet")) "label_of" = some (some (.ref (He.ma K (He.ga K "WaitingSet") "label_of")))),
  fun K => PySem.W.isFn K (.ref (He.ma K (He.ga K "WaitingSet") "label_of")),
  fun K => PySem.W.keepIn K (.ref (He.ma K (He.ga K "WaitingSet") "label_of")),
  fun K => decide (PySem.W.findIn K (.ref (He.ga K "WaitingSet")) "put" = some (some (.ref (He.ma K (He.ga K "WaitingSet") "put")))),
  fun K => PySem.W.isFn K (.ref (He.ma K (He.ga K "WaitingSet") "put")),
  fun K => PySem.W.keepIn K (.ref (He.ma K (He.ga K "WaitingSet") "put")),
  fun K => decide (PySem.W.findIn K (.ref (He.ga K "WaitingSet")) "append_pending" = some (some (.ref (He.ma K (He.ga K "WaitingSet") "append_pending")))),
  fun K => PySem.W.isFn K (.ref (He.ma K (He.ga K "WaitingSet") "append_pending")),
  fun K => PySem.W.keepIn K (.ref (He.ma K (He.ga K "WaitingSet") "append_pending")),
  fun K => decide (PySem.W.findIn K (.ref (He.ga K "WaitingSet")) "drop" = some (some (.ref (He.ma K (He.ga K "WaitingSet") "drop")))),
  fun K => PySem.W.isFn K (.ref (He.ma K (He.ga K "WaitingSet") "drop")),
  fun K => PySem.W.keepIn K (.ref (He.ma K (He.ga K "WaitingSet") "drop")),
  fun K => decide (PySem.W.findIn K (.ref (He.ga K "WaitingSet")) "drop_source" = some (some (.ref (He.ma K (He.ga K "WaitingSet") "drop_source")))),
  fun K => PySem.W.isFn K (.ref (He.ma K (He.ga K "WaitingSet") "drop_source")),
  fun K => PySem.W.keepIn K (.ref (He.ma K (He.ga K "WaitingSet") "drop_source")),
  fun K => decide (PySem.W.findIn K (.ref (He.ga K "System")) "__init__" = some (some (.ref (He.ma K (He.ga K "System") "__init__")))),
  fun K => PySem.W.isFn K (.ref (He.ma K (He.ga K "System") "__init__")),
  fun K => PySem.W.keepIn K (.ref (He.ma K (He.ga K "System") "__init__")),
  fun K => decide (PySem.W.findIn K (.ref (He.ga K "System")) "__contains__" = some (some (.ref (He.ma K (He.ga K "System") "__contains__")))),
  fun K => PySem.W.isFn K (.ref (He.ma K (He.ga K "System") "__contains__")),
  fun K => PySem.W.keepIn K (.ref (He.ma K (He.ga K "System") "__contains__")),
  fun K => decide (PySem.W.findIn K (.ref (He.ga K "System")) "table_of" = some (some (.ref (He.ma K (He.ga K "System") "table_of")))),
  fun K => PySem.W.isFn K (.ref (He.ma K (He.ga K "System") "table_of")),
  fun K => PySem.W.keepIn K (.ref (He.ma K (He.ga K "System") "table_of")),
  fun K => decide (PySem.W.findIn K (.ref (He.ga K "System")) "is_table_number" = some (some (.ref (He.ma K (He.ga K "System") "is_table_number")))),
  fun K => PySem.W.isFn K (.ref (He.ma K (He.ga K "System") "is_table_number")),
  fun K => PySem.W.keepIn K (.ref (He.ma K (He.ga K "System") "is_table_number")),
  fun K => decide (PySem.W.findIn K (.ref (He.ga K "System")) "thing_at" = some (some (.ref (He.ma K (He.ga K "System") "thing_at")))),
  fun K => PySem.W.isFn K (.ref (He.ma K (He.ga K "System") "thing_at"))]
def ck11 : List Ck := [fun K => PySem.W.keepIn K (.ref (He.ma K (He.ga K "System") "thing_at")),
  fun K => decide (PySem.W.findIn K (.ref (He.ga K "System")) "source_at" = some (some (.ref (He.ma K (He.ga K "System") "source_at")))),
  fun K => PySem.W.isFn K (.ref (He.ma K (He.ga K "System") "source_at")),
  fun K => PySem.W.keepIn K (.ref (He.ma K (He.ga K "System") "source_at")),
  fun K => decide (PySem.W.findIn K (.ref (He.ga K "System")) "set_at" = some (some (.ref (He.ma K (He.ga K "System") "set_at")))),
  fun K => PySem.W.isFn K (.ref (He.ma K (He.ga K "System") "set_at")),
  fun K => PySem.W.keepIn K (.ref (He.ma K (He.ga K "System") "set_at")),
  fun K => decide (PySem.W.findIn K (.ref (He.ga K "System")) "free_number" = some (some (.ref (He.ma K (He.ga K "System") "free_number")))),
  fun K => PySem.W.isFn K (.ref (He.ma K (He.ga K "System") "free_number")),
  fun K => PySem.W.keepIn K (.ref (He.ma K (He.ga K "System") "free_number")),
  fun K => decide (PySem.W.findIn K (.ref (He.ga K "System")) "new_thing" = some (some (.ref (He.ma K (He.ga K "System") "new_thing")))),
  fun K => PySem.W.isFn K (.ref (He.ma K (He.ga K "System") "new_thing")),
  fun K => PySem.W.keepIn K (.ref (He.ma K (He.ga K "System") "new_thing")),
  fun K => decide (PySem.W.findIn K (.ref (He.ga K "System")) "new_source" = some (some (.ref (He.ma K (He.ga K "System") "new_source")))),
  fun K => PySem.W.isFn K (.ref (He.ma K (He.ga K "System") "new_source")),
  fun K => PySem.W.keepIn K (.ref (He.ma K (He.ga K "System") "new_source")),
  fun K => decide (PySem.W.findIn K (.ref (He.ga K "System")) "new_set" = some (some (.ref (He.ma K (He.ga K "System") "new_set")))),
  fun K => PySem.W.isFn K (.ref (He.ma K (He.ga K "System") "new_set")),
  fun K => PySem.W.keepIn K (.ref (He.ma K (He.ga K "System") "new_set")),
  fun K => decide (PySem.W.findIn K (.ref (He.ga K "System")) "is_ready" = some (some (.ref (He.ma K (He.ga K "System") "is_ready")))),
  fun K => PySem.W.isFn K (.ref (He.ma K (He.ga K "System") "is_ready")),
  fun K => PySem.W.keepIn K (.ref (He.ma K (He.ga K "System") "is_ready")),
  fun K => decide (PySem.W.findIn K (.ref (He.ga K "System")) "end_thing" = some (some (.ref (He.ma K (He.ga K "System") "end_thing")))),
  fun K => PySem.W.isFn K (.ref (He.ma K (He.ga K "System") "end_thing")),
  fun K => PySem.W.keepIn K (.ref (He.ma K (He.ga K "System") "end_thing")),
  fun K => decide (PySem.W.findIn K (.ref (He.ga K "System")) "add" = some (some (.ref (He.ma K (He.ga K "System") "add")))),
  fun K => PySem.W.isFn K (.ref (He.ma K (He.ga K "System") "add")),
  fun K => PySem.W.keepIn K (.ref (He.ma K (He.ga K "System") "add")),
  fun K => decide (PySem.W.findIn K (.ref (He.ga K "System")) "free" = some (some (.ref (He.ma K (He.ga K "System") "free")))),
  fun K => PySem.W.isFn K (.ref (He.ma K (He.ga K "System") "free"))]
def ck12 : List Ck := [fun K => PySem.W.keepIn K (.ref (He.ma K (He.ga K "System") "free")),
  fun K => decide (PySem.W.findIn K (.ref (He.ga K "System")) "close" = some (some (.ref (He.ma K (He.ga K "System") "close")))),
  fun K => PySem.W.isFn K (.ref (He.ma K (He.ga K "System") "close")),
  fun K => PySem.W.keepIn K (.ref (He.ma K (He.ga K "System") "close")),
  fun K => decide (PySem.W.findIn K (.ref (He.ga K "System")) "copy" = some (some (.ref (He.ma K (He.ga K "System") "copy")))),
  fun K => PySem.W.isFn K (.ref (He.ma K (He.ga K "System") "copy")),
  fun K => PySem.W.keepIn K (.ref (He.ma K (He.ga K "System") "copy")),
  fun K => decide (PySem.W.findIn K (.ref (He.ga K "System")) "free_process" = some (some (.ref (He.ma K (He.ga K "System") "free_process")))),
  fun K => PySem.W.isFn K (.ref (He.ma K (He.ga K "System") "free_process")),
  fun K => PySem.W.keepIn K (.ref (He.ma K (He.ga K "System") "free_process")),
  fun K => decide (PySem.W.findIn K (.ref (He.ga K "System")) "fork" = some (some (.ref (He.ma K (He.ga K "System") "fork")))),
  fun K => PySem.W.isFn K (.ref (He.ma K (He.ga K "System") "fork")),
  fun K => PySem.W.keepIn K (.ref (He.ma K (He.ga K "System") "fork")),
  fun K => decide (PySem.W.findIn K (.ref (He.ga K "System")) "things" = some (some (.ref (He.ma K (He.ga K "System") "things")))),
  fun K => PySem.W.isFn K (.ref (He.ma K (He.ga K "System") "things")),
  fun K => PySem.W.keepIn K (.ref (He.ma K (He.ga K "System") "things")),
  fun K => decide (PySem.W.findIn K (.ref (He.ga K "System")) "numbers_of" = some (some (.ref (He.ma K (He.ga K "System") "numbers_of")))),
  fun K => PySem.W.isFn K (.ref (He.ma K (He.ga K "System") "numbers_of")),
  fun K => PySem.W.keepIn K (.ref (He.ma K (He.ga K "System") "numbers_of")),
  fun K => decide (PySem.W.findIn K (.ref (He.ga K "System")) "name_of" = some (some (.ref (He.ma K (He.ga K "System") "name_of")))),
  fun K => PySem.W.isFn K (.ref (He.ma K (He.ga K "System") "name_of")),
  fun K => PySem.W.keepIn K (.ref (He.ma K (He.ga K "System") "name_of")),
  fun K => decide (PySem.W.findIn K (.ref (He.ga K "System")) "registrations" = some (some (.ref (He.ma K (He.ga K "System") "registrations")))),
  fun K => PySem.W.isFn K (.ref (He.ma K (He.ga K "System") "registrations")),
  fun K => PySem.W.keepIn K (.ref (He.ma K (He.ga K "System") "registrations")),
  fun K => decide (PySem.W.typeIn K (.ref (He.ma K (He.ga K "NoProcess") "__init__")) = some (.type "function")),
  fun K => decide (PySem.W.typeIn K (.ref (He.ma K (He.ga K "NotOpen") "__init__")) = some (.type "function")),
  fun K => decide (PySem.W.typeIn K (.ref (He.ma K (He.ga K "NoNumber") "__init__")) = some (.type "function")),
  fun K => decide (PySem.W.typeIn K (.ref (He.ma K (He.ga K "NotASource") "__init__")) = some (.type "function")),
  fun K => decide (PySem.W.typeIn K (.ref (He.ma K (He.ga K "NotASet") "__init__")) = some (.type "function"))]
def ck13 : List Ck := [fun K => decide (PySem.W.typeIn K (.ref (He.ma K (He.ga K "Full") "__init__")) = some (.type "function")),
  fun K => decide (PySem.W.typeIn K (.ref (He.ma K (He.ga K "NoRoom") "__init__")) = some (.type "function")),
  fun K => decide (PySem.W.typeIn K (.ref (He.ma K (He.ga K "BadCount") "__init__")) = some (.type "function")),
  fun K => decide (PySem.W.typeIn K (.ref (He.ma K (He.ga K "BadLabel") "__init__")) = some (.type "function")),
  fun K => decide (PySem.W.typeIn K (.ref (He.ma K (He.ga K "BadWord") "__init__")) = some (.type "function")),
  fun K => decide (PySem.W.typeIn K (.ref (He.ma K (He.ga K "Registered") "__init__")) = some (.type "function")),
  fun K => decide (PySem.W.typeIn K (.ref (He.ma K (He.ga K "Taken") "__init__")) = some (.type "function")),
  fun K => decide (PySem.W.nsIn K mainGlobals "len" = some none),
  fun K => decide (PySem.W.nsIn K mainGlobals "enumerate" = some none),
  fun K => decide (PySem.W.nsIn K mainGlobals "int" = some none),
  fun K => decide (PySem.W.nsIn K mainGlobals "abs" = some none),
  fun K => decide (PySem.W.nsIn K mainGlobals "isinstance" = some none),
  fun K => decide (PySem.W.nsIn K mainGlobals "bool" = some none),
  fun K => decide (PySem.W.nsIn K mainGlobals "list" = some none),
  fun K => decide (PySem.W.nsIn K mainGlobals "min" = some none),
  fun K => decide (PySem.W.nsIn K mainGlobals "max" = some none),
  fun K => decide (PySem.W.nsIn K mainGlobals "range" = some none),
  fun K => decide (PySem.W.nsIn K mainGlobals "sorted" = some none),
  fun K => decide (PySem.W.nsIn K mainGlobals "any" = some none),
  fun K => decide (PySem.W.nsIn K mainGlobals "dict" = some none),
  fun K => decide (PySem.W.nsIn K mainGlobals "tuple" = some none),
  fun K => decide (PySem.W.nsIn K mainGlobals "LookupError" = some none),
  fun K => decide (PySem.W.nsIn K mainGlobals "RuntimeError" = some none),
  fun K => decide (PySem.W.nsIn K mainGlobals "TypeError" = some none),
  fun K => decide (PySem.W.nsIn K mainGlobals "ValueError" = some none),
  fun K => decide (PySem.W.nsIn K mainGlobals "OverflowError" = some none),
  fun K => decide (PySem.W.nsIn K mainGlobals "WORDS" = some (some (.ref (He.ga K "WORDS")))),
  fun K => txtB K (He.ga K "WORDS") "level" "edge" "once",
  fun K => intB (PySem.W.nsIn K mainGlobals "MOST_COUNT") 1000000,
  fun K => intB (PySem.W.nsIn K mainGlobals "MOST_LABEL") 999999]
def ck14 : List Ck := [fun K => intB (PySem.W.nsIn K mainGlobals "LEAST_PROCESSES") 2,
  fun K => intB (PySem.W.nsIn K mainGlobals "LEAST_NUMBERS") 3,
  fun K => atB K (PySem.W.findIn K (.ref (He.ga K "System")) "MOST_PROCESSES") 6,
  fun K => atB K (PySem.W.findIn K (.ref (He.ga K "System")) "MOST_NUMBERS") 8]
def ckL : List Ck := ck0 ++ (ck1 ++ (ck2 ++ (ck3 ++ (ck4 ++ (ck5 ++ (ck6 ++ (ck7 ++ (ck8 ++ (ck9 ++ (ck10 ++ (ck11 ++ (ck12 ++ (ck13 ++ (ck14))))))))))))))
def fn0 : List He.DefD := [⟨("is_integer", none), "is_integer", "is_integer", defArgs sIsInteger, defBody sIsInteger, defScope sIsInteger, [], []⟩,
  ⟨("is_between", none), "is_between", "is_between", defArgs sIsBetween, defBody sIsBetween, defScope sIsBetween, [], []⟩,
  ⟨("is_label", none), "is_label", "is_label", defArgs sIsLabel, defBody sIsLabel, defScope sIsLabel, [], []⟩,
  ⟨("is_word", none), "is_word", "is_word", defArgs sIsWord, defBody sIsWord, defScope sIsWord, [], []⟩,
  ⟨("set_named", none), "set_named", "set_named", defArgs sSetNamed, defBody sSetNamed, defScope sSetNamed, [], []⟩,
  ⟨("registration_named", none), "registration_named", "registration_named", defArgs sRegNamed, defBody sRegNamed, defScope sRegNamed, [], []⟩,
  ⟨("are_held_together", none), "are_held_together", "are_held_together", defArgs sHeldTogether, defBody sHeldTogether, defScope sHeldTogether, [], []⟩,
  ⟨("is_reached", none), "is_reached", "is_reached", defArgs sIsReached, defBody sIsReached, defScope sIsReached, [], []⟩,
  ⟨("is_sealed", none), "is_sealed", "is_sealed", defArgs sIsSealed, defBody sIsSealed, defScope sIsSealed, [], []⟩,
  ⟨("_law_bag", none), "_law_bag", "_law_bag", defArgs sBag, defBody sBag, defScope sBag, [], []⟩,
  ⟨("_law_take", none), "_law_take", "_law_take", defArgs sTake, defBody sTake, defScope sTake, [], []⟩,
  ⟨("_law_of", none), "_law_of", "_law_of", defArgs sOf, defBody sOf, defScope sOf, [], []⟩,
  ⟨("_law_due", none), "_law_due", "_law_due", defArgs sDue, defBody sDue, defScope sDue, [], []⟩,
  ⟨("_law_found", none), "_law_found", "_law_found", defArgs sFound, defBody sFound, defScope sFound, [], []⟩,
  ⟨("_law_right", none), "_law_right", "_law_right", defArgs sRight, defBody sRight, defScope sRight, [], []⟩,
  ⟨("law", none), "law", "law", defArgs sLaw, defBody sLaw, defScope sLaw, [], []⟩,
  ⟨("NoProcess", some "__init__"), "__init__", "NoProcess.__init__", defArgs sNoProcessInit, defBody sNoProcessInit, defScope sNoProcessInit, [], []⟩,
  ⟨("NotOpen", some "__init__"), "__init__", "NotOpen.__init__", defArgs sNotOpenInit, defBody sNotOpenInit, defScope sNotOpenInit, [], []⟩,
  ⟨("NoNumber", some "__init__"), "__init__", "NoNumber.__init__", defArgs sNoNumberInit, defBody sNoNumberInit, defScope sNoNumberInit, [], []⟩,
  ⟨("NotASource", some "__init__"), "__init__", "NotASource.__init__", defArgs sNotASourceInit, defBody sNotASourceInit, defScope sNotASourceInit, [], []⟩,
  ⟨("NotASet", some "__init__"), "__init__", "NotASet.__init__", defArgs sNotASetInit, defBody sNotASetInit, defScope sNotASetInit, [], []⟩,
  ⟨("Full", some "__init__"), "__init__", "Full.__init__", defArgs sFullInit, defBody sFullInit, defScope sFullInit, [], []⟩,
  ⟨("NoRoom", some "__init__"), "__init__", "NoRoom.__init__", defArgs sNoRoomInit, defBody sNoRoomInit, defScope sNoRoomInit, [], []⟩,
  ⟨("BadCount", some "__init__"), "__init__", "BadCount.__init__", defArgs sBadCountInit, defBody sBadCountInit, defScope sBadCountInit, [], []⟩,
  ⟨("BadLabel", some "__init__"), "__init__", "BadLabel.__init__", defArgs sBadLabelInit, defBody sBadLabelInit, defScope sBadLabelInit, [], []⟩,
  ⟨("BadWord", some "__init__"), "__init__", "BadWord.__init__", defArgs sBadWordInit, defBody sBadWordInit, defScope sBadWordInit, [], []⟩,
  ⟨("Registered", some "__init__"), "__init__", "Registered.__init__", defArgs sRegisteredInit, defBody sRegisteredInit, defScope sRegisteredInit, [], []⟩,
  ⟨("Taken", some "__init__"), "__init__", "Taken.__init__", defArgs sTakenInit, defBody sTakenInit, defScope sTakenInit, [], []⟩,
  ⟨("Registration", some "__init__"), "__init__", "Registration.__init__", defArgs sRegInit, defBody sRegInit, defScope sRegInit, [], []⟩,
  ⟨("WaitingSet", some "__init__"), "__init__", "WaitingSet.__init__", defArgs sWsInit, defBody sWsInit, defScope sWsInit, [], []⟩]
def fn1 : List He.DefD := [⟨("WaitingSet", some "label_of"), "label_of", "WaitingSet.label_of", defArgs sLabelOf, defBody sLabelOf, defScope sLabelOf, [], []⟩,
  ⟨("WaitingSet", some "put"), "put", "WaitingSet.put", defArgs sPut, defBody sPut, defScope sPut, [], []⟩,
  ⟨("WaitingSet", some "append_pending"), "append_pending", "WaitingSet.append_pending", defArgs sAppend, defBody sAppend, defScope sAppend, [], []⟩,
  ⟨("WaitingSet", some "drop"), "drop", "WaitingSet.drop", defArgs sDrop, defBody sDrop, defScope sDrop, [], []⟩,
  ⟨("WaitingSet", some "drop_source"), "drop_source", "WaitingSet.drop_source", defArgs sDropSource, defBody sDropSource, defScope sDropSource, [], []⟩,
  ⟨("System", some "__init__"), "__init__", "System.__init__", defArgs sSysInit, defBody sSysInit, defScope sSysInit, [], [("processes", .int 4), ("numbers", .int 8)]⟩,
  ⟨("System", some "__contains__"), "__contains__", "System.__contains__", defArgs sContains, defBody sContains, defScope sContains, [], []⟩,
  ⟨("System", some "table_of"), "table_of", "System.table_of", defArgs sTableOf, defBody sTableOf, defScope sTableOf, [], []⟩,
  ⟨("System", some "is_table_number"), "is_table_number", "System.is_table_number", defArgs sIsTabNum, defBody sIsTabNum, defScope sIsTabNum, [], []⟩,
  ⟨("System", some "thing_at"), "thing_at", "System.thing_at", defArgs sThingAt, defBody sThingAt, defScope sThingAt, [], []⟩,
  ⟨("System", some "source_at"), "source_at", "System.source_at", defArgs sSourceAt, defBody sSourceAt, defScope sSourceAt, [], []⟩,
  ⟨("System", some "set_at"), "set_at", "System.set_at", defArgs sSetAt, defBody sSetAt, defScope sSetAt, [], []⟩,
  ⟨("System", some "free_number"), "free_number", "System.free_number", defArgs sFreeNum, defBody sFreeNum, defScope sFreeNum, [], []⟩,
  ⟨("System", some "new_thing"), "new_thing", "System.new_thing", defArgs sNewThing, defBody sNewThing, defScope sNewThing, [], []⟩,
  ⟨("System", some "new_source"), "new_source", "System.new_source", defArgs sNewSource, defBody sNewSource, defScope sNewSource, [], []⟩,
  ⟨("System", some "new_set"), "new_set", "System.new_set", defArgs sNewSet, defBody sNewSet, defScope sNewSet, [], []⟩,
  ⟨("System", some "is_ready"), "is_ready", "System.is_ready", defArgs sIsReady, defBody sIsReady, defScope sIsReady, [], []⟩,
  ⟨("System", some "end_thing"), "end_thing", "System.end_thing", defArgs sEndThing, defBody sEndThing, defScope sEndThing, [], []⟩,
  ⟨("System", some "add"), "add", "System.add", defArgs sAdd, defBody sAdd, defScope sAdd, [], [("word", .str "level")]⟩,
  ⟨("System", some "free"), "free", "System.free", defArgs sFree, defBody sFree, defScope sFree, [], []⟩,
  ⟨("System", some "close"), "close", "System.close", defArgs sClose, defBody sClose, defScope sClose, [], []⟩,
  ⟨("System", some "copy"), "copy", "System.copy", defArgs sCopy, defBody sCopy, defScope sCopy, [.non], []⟩,
  ⟨("System", some "free_process"), "free_process", "System.free_process", defArgs sFreeProc, defBody sFreeProc, defScope sFreeProc, [], []⟩,
  ⟨("System", some "fork"), "fork", "System.fork", defArgs sFork, defBody sFork, defScope sFork, [], []⟩,
  ⟨("System", some "things"), "things", "System.things", defArgs sThings, defBody sThings, defScope sThings, [], []⟩,
  ⟨("System", some "numbers_of"), "numbers_of", "System.numbers_of", defArgs sNumbersOf, defBody sNumbersOf, defScope sNumbersOf, [], []⟩,
  ⟨("System", some "name_of"), "name_of", "System.name_of", defArgs sNameOf, defBody sNameOf, defScope sNameOf, [], []⟩,
  ⟨("System", some "registrations"), "registrations", "System.registrations", defArgs sRegistrations, defBody sRegistrations, defScope sRegistrations, [], []⟩]
def fnL : List He.DefD := fn0 ++ (fn1)
def fxL : List DefX := []
abbrev Rw : PySem.W.OpenRow := PySem.W.OpenLaw.row PySem.Challenge.rw_waitnumbers_k60_registrations_left_behin
abbrev tbL : Option Tb := none
abbrev exL : PySem.W.Frag → List Addr := fun K => []
abbrev hk : PySem.W.Hook := hookB 4 exL ckL fnL fxL tbL
def ob (s : PySem.W.SharedT) : He.AlD × Option Obj := obsB 4 exL ckL fnL fxL tbL (HandSHeadRun.getT s)
theorem ob_eq (s : PySem.W.SharedT) : ob s = hk.obs s.abs := obsB_eq (HandSHeadRun.getT_eq s)
def nm0 : List Str := ["_wall",
  "NoProcess",
  "NotOpen",
  "NoNumber",
  "NoRegistration",
  "NotASource",
  "NotASet",
  "BadCount",
  "BadLabel",
  "BadWord",
  "BadLimit",
  "Full",
  "NoRoom",
  "Registered",
  "Taken",
  "MOST_COUNT",
  "MOST_LABEL",
  "WORDS",
  "is_integer",
  "is_between",
  "is_count",
  "is_label",
  "is_word",
  "set_named",
  "registration_named",
  "are_held_together",
  "is_reached",
  "is_sealed",
  "Registration",
  "WaitingSet"]
def nm1 : List Str := ["LEAST_PROCESSES",
  "LEAST_NUMBERS",
  "System",
  "_law_bag",
  "_law_take",
  "_law_of",
  "_law_due",
  "_law_found",
  "_law_right"]
def nmL : List Str := nm0 ++ (nm1)
set_option maxRecDepth 100000 in
set_option maxHeartbeats 0 in
theorem run (w : World) : HandSHeadRun.RunEq Rw (PySem.W.view Rw.prog [45]) hk ob 9000 nmL w := by
  intro os
  kernel_rfl
/-! readings with names -/
def rInt1 : List V → Hp → VK → Prop := fun xs H Q => (∃ i, xs = [.int i] ∧ Q (.int i) H) ∨ ∃ k, xs = [.bl k] ∧ Q (.int (if k = true then 1 else 0)) H
def rAbs : List V → Hp → VK → Prop := fun xs H Q => ∃ i, xs = [.int i] ∧ Q (.int (if i < 0 then -i else i)) H
theorem cInt1 {X : Cx} : CallR X (.type "int") rInt1 := call_int1
theorem cAbs {X : Cx} : CallR X (.builtin "abs") rAbs := call_abs
def rIsN : R2 := fun x y H Q => y = .non ∧ Q (.bl (decide (x = .non))) H
def rNotN : R2 := fun x y H Q => y = .non ∧ Q (.bl (!decide (x = .non))) H
def rAddS : R2 := fun x y H Q => ∃ i j, x = .str i ∧ y = .str j ∧ i.length + j.length ≤ sizeLine ∧ Q (.str (i ++ j)) H
def rLenQ (K : PySem.W.Frag) : List V → Hp → VK → Prop := fun xs H Q => ∃ p ys, xs = [.ref p] ∧ (SqL K H p ys ∨ SqT K H p ys) ∧ Q (.int ys.length) H
def rLenS : List V → Hp → VK → Prop := fun xs H Q => ∃ z, xs = [.str z] ∧ z.length ≤ sizeLine ∧ Q (.int z.length) H
def rMax2 : List V → Hp → VK → Prop := fun xs H Q => ∃ i j, xs = [.int i, .int j] ∧ Q (.int (if j > i then j else i)) H
def rMin2 : List V → Hp → VK → Prop := fun xs H Q => ∃ i j, xs = [.int i, .int j] ∧ Q (.int (if j < i then j else i)) H
theorem oIsN {X : Cx} : OpR X (compareOp .Is) rIsN := op_isN
theorem oNotN {X : Cx} : OpR X (compareOp .IsNot) rNotN := op_notN
theorem cLenQ {X : Cx} : CallR X (.builtin "len") (rLenQ X.K) := call_len_seq
theorem cMax2 {X : Cx} (hc : X.calm = true) : CallR X (.builtin "max") rMax2 := call_max2 hc
theorem cMin2 {X : Cx} (hc : X.calm = true) : CallR X (.builtin "min") rMin2 := call_min2 hc
/-! one step of a reading -/
section
variable {σ : L2.St} {H : Hp} {Q : VK} {ta tb te : TE} {tl : TA} {t u : TS} {D : Ends} {c : TT} {r : R2} {v : V} {i : Nat}
theorem g_var (h : σ[i]? = some (some v)) (q : Q v H) : tVar i σ H Q := ⟨v, h, q⟩
theorem g_c (q : Q v H) : tC v σ H Q := q
theorem g_op (q : ta σ H fun x H1 => tb σ H1 fun y H2 => r x y H2 Q) : tOp r ta tb σ H Q := q
theorem g_rI0 {g : Int → Int → V} {a b : Int} (q : Q (g a b) H) : rI0 g (.int a) (.int b) H Q := ⟨a, b, rfl, rfl, q⟩
theorem g_rI {C : Int → Int → Prop} {g : Int → Int → V} {a b : Int} (hc : C a b) (q : Q (g a b) H) : rI C g (.int a) (.int b) H Q := ⟨a, b, rfl, rfl, hc, q⟩
theorem g_mul {a b : Int} (h : (-(2 ^ 64) < a ∧ a < 2 ^ 64) ∨ (-(2 ^ 64) < b ∧ b < 2 ^ 64)) (q : Q (.int (a * b)) H) : rI CMul (fun i j => .int (i * j)) (.int a) (.int b) H Q := ⟨a, b, rfl, rfl, h, q⟩
theorem g_mod {a b : Int} (h : 0 < b) (q : Q (.int (a % b)) H) : rI (fun _ j => 0 < j) (fun i j => .int (i % j)) (.int a) (.int b) H Q := ⟨a, b, rfl, rfl, h, q⟩
theorem g_rEq {x y : V} (h : scal x y = true) (q : Q (.bl (decide (x = y))) H) : rEq x y H Q := ⟨h, q⟩
theorem g_rNe {x y : V} (h : scal x y = true) (q : Q (.bl (!decide (x = y))) H) : rNe x y H Q := ⟨h, q⟩
theorem g_asg {g : TG} (q : te σ H fun x H1 => g x σ H1 D.nx) : tAsg te g D σ H := q
theorem g_name {k : L2.St → Hp → Prop} (q : k (σ.set i (some v)) H) : gName i v σ H k := q
theorem g_seq (q : t { D with nx := u D } σ H) : tSeq t u D σ H := q
theorem g_ret (q : te σ H D.rt) : tRet te D σ H := q
theorem g_next (q : D.nx σ H) : tNext D σ H := q
theorem g_drop (q : te σ H fun _ H1 => D.nx σ H1) : tDrop te D σ H := q
theorem g_nil {k : List V → Hp → Prop} (q : k [] H) : tNil σ H k := q
theorem g_cons {k : List V → Hp → Prop} (q : ta σ H fun x H1 => tl σ H1 fun xs H2 => k (x :: xs) H2) : tCons ta tl σ H k := q
theorem g_cb {r : List V → Hp → VK → Prop} (q : tl σ H fun vs H1 => r vs H1 Q) : tCB r tl σ H Q := q
theorem g_test {k : Bool → Hp → Prop} (q : te σ H fun x H1 => ∃ b, x = .bl b ∧ k b H1) : tTest te σ H k := q
theorem g_tB {k : Bool → Hp → Prop} (q : te σ H fun x H1 => ∃ b, x = .bl b ∧ k b H1) : tB te σ H k := q
theorem g_bl {b : Bool} {k : Bool → Prop} (q : k b) : ∃ z, V.bl b = .bl z ∧ k z := ⟨b, rfl, q⟩
theorem g_if (q : c σ H fun b H1 => if b = true then ta σ H1 Q else tb σ H1 Q) : tIf c ta tb σ H Q := q
theorem g_ifs (q : c σ H fun b H1 => if b = true then t D σ H1 else u D σ H1) : tIfS c t u D σ H := q
theorem g_not {k : Bool → Hp → Prop} (q : c σ H fun b H1 => k (!b) H1) : tNot c σ H k := q
theorem g_part {k : Option Int → Hp → Prop} (q : te σ H fun x H1 => ∃ z, x = .int z ∧ k (some z) H1) : tPart te σ H k := q
theorem g_pint {z : Int} {k : Int → Prop} (q : k z) : ∃ y, V.int z = .int y ∧ k y := ⟨z, rfl, q⟩
theorem g_lst (q : tl σ H fun xs H1 => xs.length ≤ sizeLine ∧ ∀ p, H1 p = none → Q (.ref p) (upd H1 p (.lst xs))) : tLst tl σ H Q := q
theorem g_tup (q : tl σ H fun xs H1 => xs.length ≤ sizeLine ∧ ∀ p, H1 p = none → Q (.ref p) (upd H1 p (.tup xs))) : tTup tl σ H Q := q
theorem g_ixL {K : PySem.W.Frag} {p : Addr} {xs : List V} {z : Int} (h : H p = some (.lst xs)) (a : atI xs z = some v) (q : Q v H) : rIxL K (.ref p) (.int z) H Q := ⟨p, xs, z, v, rfl, rfl, SqL.of h, a, q⟩
theorem cdivw_of {a b : Int} (h0 : 0 < b) (h1 : b < 4611686018427387904) : CDivW a b := wide_div (b := 62) h0 (by omega) (by decide) (by decide)
theorem g_div {a b : Int} (h0 : 0 < b) (h1 : b < 4611686018427387904) (q : Q (.int (a / b)) H) : rI CDivW (fun i j => .int (i / j)) (.int a) (.int b) H Q := ⟨a, b, rfl, rfl, cdivw_of h0 h1, q⟩
theorem g_sub {to ti : TE} {ts : TSet} {k : L2.St → Hp → Prop} (q : to σ H fun o H1 => ti σ H1 fun i H2 => ts o i v H2 fun H3 => k σ H3) : gSub to ti ts v σ H k := q
theorem g_setL {p : Addr} {xs : List V} {z : Int} {j : Nat} {k : Hp → Prop} (h : H p = some (.lst xs)) (a : ixN xs.length z = some j) (q : k (upd H p (.lst (xs.set j v)))) : rSetL (.ref p) (.int z) v H k := ⟨p, xs, z, j, rfl, rfl, h, a, q⟩
theorem g_nopart {k : Option Int → Hp → Prop} (q : k none H) : tNoPart σ H k := q
theorem g_call {sp : Sp} {dvs : List V} {E : XK} (q : tl σ H fun vs H1 => sp (vs ++ dvs) H1 Q E) : tCall sp dvs E tl σ H Q := q
theorem g_rint (z : Int) (q : Q (.int z) H) : rInt1 [.int z] H Q := .inl ⟨z, rfl, q⟩
theorem g_rabs {z : Int} (q : Q (.int (if z < 0 then -z else z)) H) : rAbs [.int z] H Q := ⟨z, rfl, q⟩
theorem g_sl {r : V → Option Int → Option Int → Hp → VK → Prop} {a b : TO} (q : te σ H fun x H1 => a σ H1 fun l H2 => b σ H2 fun h H3 => r x l h H3 Q) : tSl r te a b σ H Q := q
theorem g_rIsN {x : V} (q : Q (.bl (decide (x = .non))) H) : rIsN x .non H Q := ⟨rfl, q⟩
theorem g_rNotN {x : V} (q : Q (.bl (!decide (x = .non))) H) : rNotN x .non H Q := ⟨rfl, q⟩
theorem g_max2 {a b : Int} (q : Q (.int (if b > a then b else a)) H) : rMax2 [.int a, .int b] H Q := ⟨a, b, rfl, q⟩
theorem g_min2 {a b : Int} (q : Q (.int (if b < a then b else a)) H) : rMin2 [.int a, .int b] H Q := ⟨a, b, rfl, q⟩
theorem g_and {t u : TT} {k : Bool → Hp → Prop} (q : t σ H fun b H1 => if b = true then u σ H1 k else k false H1) : tAnd t u σ H k := q
theorem g_or {t u : TT} {k : Bool → Hp → Prop} (q : t σ H fun b H1 => if b = true then k true H1 else u σ H1 k) : tOr t u σ H k := q
theorem g_orV (q : ta σ H fun x H1 => ∃ b, x = .bl b ∧ if b = true then Q (.bl true) H1 else tb σ H1 Q) : tOrV ta tb σ H Q := q
theorem g_andV (q : ta σ H fun x H1 => ∃ b, x = .bl b ∧ if b = true then tb σ H1 Q else Q (.bl false) H1) : tAndV ta tb σ H Q := q
theorem g_notV (q : ta σ H fun x H1 => ∃ b, x = .bl b ∧ Q (.bl (!b)) H1) : tNotV ta σ H Q := q
theorem g_bT {A B : Prop} (q : A) : if true = true then A else B := iteT q
theorem g_bF {A B : Prop} (q : B) : if false = true then A else B := iteF q
theorem g_bNT {A B : Prop} (q : B) : if (!true) = true then A else B := iteF q
theorem g_bNF {A B : Prop} (q : A) : if (!false) = true then A else B := iteT q
theorem g_bm {K : PySem.W.Frag} {T : String} {r : V → List V → Hp → VK → Prop} (q : ta σ H fun x H1 => tyV K T x H1 ∧ tl σ H1 fun xs H2 => r x xs H2 Q) : tBM K T r ta tl σ H Q := q
theorem g_bm0 {K : PySem.W.Frag} {T : String} {r : V → List V → Hp → VK → Prop} (q : ta σ H fun x H1 => tyV K T x H1 ∧ r x [] H1 Q) : tBM0 K T r ta σ H Q := q
theorem g_tyL {K : PySem.W.Frag} {p : Addr} {xs : List V} {c : Prop} (h : H p = some (.lst xs)) (q : c) : tyV K "list" (.ref p) H ∧ c := ⟨.inl ⟨rfl, _, SqL.of h⟩, q⟩
theorem g_yes {k : Bool → Hp → Prop} (q : k true H) : tYes σ H k := q
theorem g_nes {x : V} {A B : Prop} (q : B) : if (!decide (x = x)) = true then A else B := by
  rw [decide_eq_true rfl]
  exact iteF q
theorem g_es {x : V} {A B : Prop} (q : A) : if decide (x = x) = true then A else B := by
  rw [decide_eq_true rfl]
  exact iteT q
end
local macro_rules | `(tactic| walk_at "wn1") => `(tactic| first | ((with_reducible show (if (!decide _) = true then _ else _)); refine' g_nes ?_) | ((with_reducible show (if (decide _) = true then _ else _)); refine' g_es ?_) | with_reducible first
  | (refine' g_var ?h ?q; (case h => with_unfolding_all rfl))
  | refine' g_c ?_ | refine' g_op ?_ | refine' g_rI0 ?_ | refine' g_asg ?_ | refine' g_name ?_ | refine' g_seq ?_ | refine' g_ret ?_ | refine' g_retN ?_ | refine' g_next ?_ | refine' g_drop ?_
  | refine' g_nil ?_ | refine' g_cons ?_ | refine' g_cb ?_ | refine' g_test ?_ | refine' g_bl ?_ | refine' g_if ?_ | refine' g_ifs ?_ | refine' g_not ?_ | refine' g_part ?_ | refine' g_pint ?_ | refine' g_nopart ?_ | refine' g_call ?_
  | (refine' g_mul ?h ?q; (case h => with_unfolding_all first | exact Or.inl ⟨by decide, by decide⟩ | exact Or.inr ⟨by decide, by decide⟩ | exact Or.inl ⟨by omega, by omega⟩ | exact Or.inr ⟨by omega, by omega⟩))
  | (refine' g_mod ?h ?q; (case h => with_unfolding_all first | decide | omega))
  | refine' g_rIsN ?_ | refine' g_rNotN ?_ | refine' g_max2 ?_ | refine' g_min2 ?_ | refine' g_and ?_ | refine' g_or ?_ | refine' g_orV ?_ | refine' g_andV ?_ | refine' g_notV ?_ | refine' g_m1 ?_ | refine' g_yes ?_ | refine' g_bm ?_ | refine' g_bm0 ?_
  | (refine' g_tyL ?h ?q; (case h => first | assumption | exact upd_same))
  | refine' g_m0 ?_ | refine' g_tB ?_ | refine' g_isS ?_ | refine' g_bT ?_ | refine' g_bF ?_ | refine' g_bNT ?_ | refine' g_callK ?_ | refine' g_bNF ?_
  | (refine' g_lenL ?h ?q; (case h => first | assumption | exact upd_same))
  | refine' g_un ?_ | refine' g_rint _ ?_ | refine' g_rabs ?_ | refine' g_sl ?_ 
  | (refine' g_ixL ?h ?a ?q; (case h => first | assumption | exact upd_same); (case a => with_unfolding_all rfl))
  | (refine' g_div ?h0 ?h1 ?q; (case h0 => with_unfolding_all first | decide | omega); (case h1 => with_unfolding_all first | decide | omega))
  | refine' g_sub ?_
  | (refine' g_setL ?h ?a ?q; (case h => first | assumption | exact upd_same); (case a => with_unfolding_all rfl))
  | refine' g_lst ?_ | refine' g_tup ?_
  | (refine' g_rEq ?h ?q; (case h => with_unfolding_all rfl)) | (refine' g_rNe ?h ?q; (case h => with_unfolding_all rfl)))
local macro_rules | `(tactic| walk_at "wn") => `(tactic| repeat walk_at "wn1")

theorem seq_at {K : PySem.W.Frag} {H H' : Hp} {l : Addr} {xs : List V} (e : H' l = H l) (h : SqL K H l xs) : SqL K H' l xs := by
  rcases h with (h | ⟨o, h⟩) | h
  · exact .inl (.inl (e.trans h))
  · exact .inl (.inr ⟨o, e.trans h⟩)
  · exact .inr h
/-! own __contains__ -/
def rOwnNotIn (C : Addr) (sp : Sp) : R2 := fun x y H Q => ∃ a dx fs, y = .ref a ∧ H a = some (.ins C dx fs) ∧ sp [.ref a, x] H (fun v H' => ∃ b, v = .bl b ∧ Q (.bl (!b)) H') fun _ _ _ => False
theorem op_ownNotIn {X : Cx} {CX : CXT} {k : Nat} {C f : Addr} {fd : FuncData} {ps : List Str} {sp : Sp} (F : FnOk X.prog X.w X.K X.mg X.base CX k f fd ps sp) (hr : Room k X.A)
    (hs : PySem.W.findIn X.K (.ref C) "__contains__" = some (some (.ref f))) (hf : PySem.W.isFn X.K (.ref f) = true) (hb : Binds X.K fd ps []) (hx : Passes CX X fun _ _ _ => False) : OpR X (compareOp .NotIn) (rOwnNotIn C sp) := by
  intro pins s σ H x y v u Q I rx ry d
  obtain ⟨a, dx, fs, rfl, ha, hsp⟩ := d
  cases ry
  obtain ⟨mA, J, _⟩ := ins_get I.hok ha
  obtain ⟨od, J, _⟩ := J.look
  obtain ⟨m, hF⟩ := I.fr
  refine PySem.W.notIn_K hF I.ok.mod.kin J hs hf ?_
  have hl := F.len _ _ _ _ hsp
  have r2 : Vals [V.ref a, x] [Value.ref a, v] := .cons rfl (.cons rx .nil)
  refine wpAny_call (codeAny_mono (F.run X.A X.stack s H ⟨[.ref a, v], []⟩ [.ref a, v] [.ref a, x] _ _ hr I.env0 (by
    have := hb s [.ref a, v] I.kIn (by simpa using hl)
    simpa using this) r2 hsp) fun r s' hq => ?_)
  cases r with
  | error e => exact hx pins σ H s e s' I hq
  | ok fl =>
    cases fl with
    | ret w =>
      obtain ⟨z, H', I', rz, b, ez, q⟩ := I.after hq
      subst ez
      cases rz
      exact wpAny_truthy_bool ⟨.bl (!b), H', I', rfl, q⟩
    | next => exact False.elim hq
    | brk => exact False.elim hq
    | cont => exact False.elim hq
section
variable {P : Program} {w : World} {K : PySem.W.Frag} {mg : Str → Option Value} {base : Heap}
structure ChkTxt (K : PySem.W.Frag) (mg : Str → Option Value) : Prop where
  isin : mg "isinstance" = none
  int : mg "int" = none
  bool : mg "bool" = none
  count : ∃ t, mg "MOST_COUNT" = some (.int 1000000 t)
  label : ∃ t, mg "MOST_LABEL" = some (.int 999999 t)
  words : ∃ a, mg "WORDS" = some (.ref a) ∧ ∀ H, SqT K H a [.str "level", .str "edge", .str "once"]
def spIsInteger : Sp := fun vs H Q _ => ∃ i : Int, vs = [.int i] ∧ Q (.bl true) H
theorem scIsInteger : FnScope ["x"] ["x"] (defScope sIsInteger) := ⟨rfl, rfl, rfl, by decide +kernel, rfl, by decide +kernel, by decide +kernel⟩
theorem okIsInteger {f : Addr} {fd : FuncData} (F : Fun K "is_integer" "is_integer" sIsInteger f fd) (T : ChkTxt K mg) : FnOk P w K mg base CX0 1 f fd ["x"] spIsInteger := by
  refine F.ok scIsInteger (fun vs H Q E h => ?_) (fun cdv A outer s H vs Q E hr h => ?_)
  · obtain ⟨x, rfl, _⟩ := h
    rfl
  · obtain ⟨i, rfl, k⟩ := h
    refine ⟨_, pss_one (ps_ret (pe_and (pe_callB call_isi (by rfl) T.isin PyProof.Rows.boot_isinstance (pa_cons (pv 0) (pa_cons (pe_bltn (v := .ty "int") (by rfl) T.int PyProof.Rows.boot_int rfl) pa_nil))) (pe_one (pe_not (pe_callB call_isi (by rfl) T.isin PyProof.Rows.boot_isinstance (pa_cons (pv 0) (pa_cons (pe_bltn (v := .ty "bool") (by rfl) T.bool (by decide +kernel) rfl) pa_nil))))))), ?_⟩
    refine ⟨_, rfl, _, _, _, _, true, rfl, .ty "int", .base (.int i), kit_ty (by decide +kernel), ?_⟩
    refine ⟨_, rfl, _, rfl, _, _, _, _, false, rfl, .ty "bool", .base (.int i), kit_ty (by decide +kernel), ?_⟩
    exact ⟨_, rfl, k⟩
def spIsBetween : Sp := fun vs H Q _ => ∃ i a b : Int, vs = [.int i, .int a, .int b] ∧ Q (.bl (decide (a ≤ i) && decide (i ≤ b))) H
theorem scIsBetween : FnScope ["x", "least", "most"] ["x", "least", "most"] (defScope sIsBetween) := ⟨rfl, rfl, rfl, by decide +kernel, rfl, by decide +kernel, by decide +kernel⟩
theorem okIsBetween {f fI : Addr} {fd fdI : FuncData} (F : Fun K "is_between" "is_between" sIsBetween f fd) (GI : FnOk P w K mg base CX0 1 fI fdI ["x"] spIsInteger) (kI : PySem.W.keepIn K (.ref fI) = true) (gI : mg "is_integer" = some (.ref fI)) (bI : Binds K fdI ["x"] []) :
    FnOk P w K mg base CX0 2 f fd ["x", "least", "most"] spIsBetween := by
  refine F.ok scIsBetween (fun vs H Q E h => ?_) (fun cdv A outer s H vs Q E hr h => ?_)
  · obtain ⟨x, y, z, rfl, _⟩ := h
    rfl
  · obtain ⟨i, a, b, rfl, k⟩ := h
    refine ⟨_, pss_one (ps_ret (pe_and (pe_call GI hr (by rfl) gI kI bI .nil pass0 (pa_cons (pv 0) pa_nil)) (pe_one (pe_chain op_le op_le (pv 1) (pv 0) (pv 2))))), ?_⟩
    walk_at "wn"
    refine ⟨i, rfl, ?_⟩
    walk_at "wn"
    refine ⟨_, rfl, _, rfl, a, i, rfl, rfl, _, rfl, ?_⟩
    refine ite2 (fun hc => ?_) (fun hc => ?_)
    · rw [hc, Bool.true_and] at k
      exact ⟨_, rfl, i, b, rfl, rfl, k⟩
    · rw [Bool.eq_false_iff.mpr hc, Bool.false_and] at k
      exact k
def spIsCount : Sp := fun vs H Q _ => ∃ i : Int, vs = [.int i] ∧ Q (.bl (decide (1 ≤ i) && decide (i ≤ 1000000))) H
def spIsLabel : Sp := fun vs H Q _ => ∃ i : Int, vs = [.int i] ∧ Q (.bl (decide (0 ≤ i) && decide (i ≤ 999999))) H
theorem scIsLabel : FnScope ["x"] ["x"] (defScope sIsLabel) := ⟨rfl, rfl, rfl, by decide +kernel, rfl, by decide +kernel, by decide +kernel⟩
theorem okIsLabel {f fB : Addr} {fd fdB : FuncData} (F : Fun K "is_label" "is_label" sIsLabel f fd) (T : ChkTxt K mg) (GB : FnOk P w K mg base CX0 2 fB fdB ["x", "least", "most"] spIsBetween) (kB : PySem.W.keepIn K (.ref fB) = true) (gB : mg "is_between" = some (.ref fB)) (bB : Binds K fdB ["x", "least", "most"] []) :
    FnOk P w K mg base CX0 3 f fd ["x"] spIsLabel := by
  refine F.ok scIsLabel (fun vs H Q E h => ?_) (fun cdv A outer s H vs Q E hr h => ?_)
  · obtain ⟨x, rfl, _⟩ := h
    rfl
  · obtain ⟨i, rfl, k⟩ := h
    obtain ⟨t, ht⟩ := T.label
    refine ⟨_, pss_one (ps_ret (pe_call GB hr (by rfl) gB kB bB .nil pass0 (pa_cons (pv 0) (pa_cons pe_int (pa_cons (pe_glob (v := .int 999999) (by rfl) ht ⟨_, rfl⟩) pa_nil))))), ?_⟩
    walk_at "wn"
    exact ⟨i, 0, 999999, rfl, k⟩
def wordsL : List Str := ["level", "edge", "once"]
def spIsWord : Sp := fun vs H Q _ => ∃ x : Str, vs = [.str x] ∧ x ∈ wordsL ∧ Q (.bl true) H
theorem word_in : ∀ x ∈ wordsL, inV (.str x) [.str "level", .str "edge", .str "once"] = true := by decide +kernel
theorem scIsWord : FnScope ["x"] ["x"] (defScope sIsWord) := ⟨rfl, rfl, rfl, by decide +kernel, rfl, by decide +kernel, by decide +kernel⟩
theorem okIsWord {f : Addr} {fd : FuncData} (F : Fun K "is_word" "is_word" sIsWord f fd) (T : ChkTxt K mg) : FnOk P w K mg base CX0 1 f fd ["x"] spIsWord := by
  refine F.ok scIsWord (fun vs H Q E h => ?_) (fun cdv A outer s H vs Q E hr h => ?_)
  · obtain ⟨x, rfl, _⟩ := h
    rfl
  · obtain ⟨x, rfl, hx, k⟩ := h
    obtain ⟨aW, gW, sW⟩ := T.words
    refine ⟨_, pss_one (ps_ret (pe_cmpR op_in_seq (pv 0) (pe_glob (v := .ref aW) (by rfl) gW rfl) (by rfl))), ?_⟩
    walk_at "wn"
    refine ⟨aW, _, rfl, .inr (sW _), rfl, by decide, ?_⟩
    show Q (.bl (inV _ _)) H
    rw [word_in x hx]
    exact k
end

/-! the classes of the program -/
structure ClsF (K : PySem.W.Frag) (C : Addr) (fs : List Str) : Prop where
  cl : Cls K C
  no : ∀ f ∈ fs, NoAttr K C f
abbrev regF : List Str := ["number", "source", "word", "armed"]
abbrev wsF : List Str := ["entries", "queue"]
abbrev sysF : List Str := ["process_limit", "number_limit", "tables", "sources", "sets", "next_thing"]
def regO (C dx : Addr) (n s : Int) (wd : Str) (ar : Bool) : HO := .ins C dx [("number", .int n), ("source", .int s), ("word", .str wd), ("armed", .bl ar)]
def wsO (C dx e q : Addr) : HO := .ins C dx [("entries", .ref e), ("queue", .ref q)]
theorem Same.new' {H : Hp} {l : Addr} {o : HO} (hl : H l = none) : Same H (upd H l o) := fun b u e => by rw [upd_ne (ne_of_none e hl)]; exact e
theorem inV_int (l : Int) : ∀ qs : List Int, inV (.int l) (qs.map V.int) = decide (l ∈ qs)
  | [] => rfl
  | x :: qs => by
    have ih := inV_int l qs
    unfold inV at ih ⊢
    rw [List.map_cons, List.any_cons, ih]
    have e : eqV (V.int x) (V.int l) = decide (x = l) := rfl
    rw [e]
    by_cases h : x = l
    · rw [decide_eq_true h, Bool.true_or]
      exact (decide_eq_true (by rw [h]; exact List.mem_cons_self)).symm
    · rw [decide_eq_false h, Bool.false_or]
      by_cases h2 : l ∈ qs
      · rw [decide_eq_true h2]
        exact (decide_eq_true (List.mem_cons_of_mem _ h2)).symm
      · rw [decide_eq_false h2]
        exact (decide_eq_false fun z => (List.mem_cons.mp z).elim (fun e => h e.symm) h2).symm
theorem flat_ints (qs : List Int) : (qs.map V.int).all flatV = true := by
  rw [List.all_map, List.all_eq_true]
  intro x _
  rfl
section
variable {P : Program} {w : World} {K : PySem.W.Frag} {mg : Str → Option Value} {base : Heap} {CR CW : Addr}
/-! Registration -/
def spRegInit (CR : Addr) : Sp := fun vs H Q _ => ∃ (a dx : Addr) (n s : Int) (wd : Str) (ar : Bool), vs = [.ref a, .int n, .int s, .str wd, .bl ar] ∧ H a = some (.ins CR dx []) ∧
  ∀ H', (∀ b, b ≠ a → H' b = H b) → H' a = some (regO CR dx n s wd ar) → Q .non H'
theorem scRegInit : FnScope ["self", "number", "source", "word", "armed"] ["self", "number", "source", "word", "armed"] (defScope sRegInit) := ⟨rfl, rfl, rfl, by decide +kernel, rfl, by decide +kernel, by decide +kernel⟩
theorem okRegInit {f : Addr} {fd : FuncData} (F : Fun K "__init__" "Registration.__init__" sRegInit f fd) (T : ClsF K CR regF) : FnOk P w K mg base CX0 1 f fd ["self", "number", "source", "word", "armed"] (spRegInit CR) := by
  refine F.ok scRegInit (fun vs H Q E h => ?_) (fun cdv A outer s H vs Q E hr h => ?_)
  · obtain ⟨_, _, _, _, _, _, rfl, _⟩ := h
    rfl
  · obtain ⟨a, dx, n, s, wd, ar, rfl, ha, k⟩ := h
    refine ⟨_, pss_cons (ps_fld (pv 0) (pv 1) rfl) (pss_cons (ps_fld (pv 0) (pv 2) rfl) (pss_cons (ps_fld (pv 0) (pv 3) rfl) (pss_one (ps_fld (pv 0) (pv 4) rfl)))), ?_⟩
    refine ⟨_, rfl, _, rfl, a, CR, dx, _, rfl, ha, T.cl, T.no _ (by decide), by decide, ?_⟩
    refine ⟨_, rfl, _, rfl, a, CR, dx, _, rfl, upd_same, T.cl, T.no _ (by decide), by show 1 < 1000; decide, ?_⟩
    refine ⟨_, rfl, _, rfl, a, CR, dx, _, rfl, upd_same, T.cl, T.no _ (by decide), by show 2 < 1000; decide, ?_⟩
    refine ⟨_, rfl, _, rfl, a, CR, dx, _, rfl, upd_same, T.cl, T.no _ (by decide), by show 3 < 1000; decide, ?_⟩
    exact k _ (fun b hb => by rw [upd_ne hb, upd_ne hb, upd_ne hb, upd_ne hb]) upd_same
/-! WaitingSet -/
def spWsInit (CW : Addr) : Sp := fun vs H Q _ => ∃ (a dx : Addr), vs = [.ref a] ∧ H a = some (.ins CW dx []) ∧
  ∀ H' e q, H e = none → H q = none → H' e = some (.dK []) → H' q = some (.lst []) → H' a = some (wsO CW dx e q) → (∀ b, b ≠ a → b ≠ e → b ≠ q → H' b = H b) → Q .non H'
theorem scWsInit : FnScope ["self"] ["self"] (defScope sWsInit) := ⟨rfl, rfl, rfl, by decide +kernel, rfl, by decide +kernel, by decide +kernel⟩
theorem okWsInit {f : Addr} {fd : FuncData} (F : Fun K "__init__" "WaitingSet.__init__" sWsInit f fd) (T : ClsF K CW wsF) : FnOk P w K mg base CX0 1 f fd ["self"] (spWsInit CW) := by
  refine F.ok scWsInit (fun vs H Q E h => ?_) (fun cdv A outer s H vs Q E hr h => ?_)
  · obtain ⟨_, _, rfl, _⟩ := h
    rfl
  · obtain ⟨a, dx, rfl, ha, k⟩ := h
    refine ⟨_, pss_cons (ps_fld (pv 0) pe_dnewK rfl) (pss_one (ps_fld (pv 0) (pe_lst pa_nil) rfl)), ?_⟩
    intro e he
    have nae : a ≠ e := ne_of_none ha he
    refine ⟨_, rfl, a, CW, dx, _, rfl, by rw [upd_ne nae]; exact ha, T.cl, T.no _ (by decide), by decide, ?_⟩
    refine ⟨Nat.zero_le _, fun q hq => ?_⟩
    have nqa : q ≠ a := fun z => by rw [z, upd_same] at hq; cases hq
    rw [upd_ne nqa] at hq
    have nqe : q ≠ e := fun z => by rw [z, upd_same] at hq; cases hq
    rw [upd_ne nqe] at hq
    refine ⟨_, rfl, a, CW, dx, _, rfl, by rw [upd_ne (Ne.symm nqa)]; exact upd_same, T.cl, T.no _ (by decide), by show 1 < 1000; decide, ?_⟩
    refine k _ e q he hq ?_ ?_ upd_same (fun b h1 h2 h3 => ?_)
    · rw [upd_ne (Ne.symm nae), upd_ne (Ne.symm nqe), upd_ne (Ne.symm nae), upd_same]
    · rw [upd_ne nqa, upd_same]
    · rw [upd_ne h1, upd_ne h3, upd_ne h1, upd_ne h2]
/-! append_pending -/
def qAdd (l : Int) (qs : List Int) : List Int := if l ∈ qs then qs else qs ++ [l]
def spAppend (CW : Addr) : Sp := fun vs H Q _ => ∃ (a dx e q : Addr) (l : Int) (qs : List Int), vs = [.ref a, .int l] ∧ H a = some (wsO CW dx e q) ∧ H q = some (.lst (qs.map V.int)) ∧ qs.length ≤ 10000 ∧
  ∀ H', H' q = some (.lst ((qAdd l qs).map V.int)) → (∀ b, b ≠ q → H' b = H b) → Q .non H'
theorem scAppend : FnScope ["self", "label"] ["self", "label"] (defScope sAppend) := ⟨rfl, rfl, rfl, by decide +kernel, rfl, by decide +kernel, by decide +kernel⟩
theorem okAppend {f : Addr} {fd : FuncData} (F : Fun K "append_pending" "WaitingSet.append_pending" sAppend f fd) (T : ClsF K CW wsF) : FnOk P w K mg base CX0 1 f fd ["self", "label"] (spAppend CW) := by
  refine F.ok scAppend (fun vs H Q E h => ?_) (fun cdv A outer s H vs Q E hr h => ?_)
  · obtain ⟨_, _, _, _, _, _, rfl, _⟩ := h
    rfl
  · obtain ⟨a, dx, e, q, l, qs, rfl, ha, hq, hl, k⟩ := h
    refine ⟨_, pss_one (ps_if (pt_cmpR op_notIn_seq (pv 1) (pe_fld (pv 0) rfl) (by rfl)) (pss_one (ps_expr (pe_bm PySem.F.plainAttrs_list PySem.F.slot_list_append PySem.F.type_list_append mt_append (pe_fld (pv 0) rfl) (pa_cons (pv 1) pa_nil)))) pss_nil), ?_⟩
    walk_at "wn"
    refine ⟨_, rfl, a, CW, dx, _, _, rfl, ha, T.cl, T.no _ (by decide), rfl, ?_⟩
    refine ⟨q, qs.map V.int, rfl, .inl (SqL.of hq), rfl, flat_ints qs, ?_⟩
    refine ⟨_, rfl, ?_⟩
    rw [inV_int]
    by_cases h : l ∈ qs
    · rw [decide_eq_true h]
      walk_at "wn"
      refine k H ?_ fun _ _ => rfl
      unfold qAdd
      rw [if_pos h]
      exact hq
    · rw [decide_eq_false h]
      walk_at "wn"
      refine ⟨_, rfl, a, CW, dx, _, _, rfl, ha, T.cl, T.no _ (by decide), rfl, ?_⟩
      refine ⟨.inl ⟨rfl, _, SqL.of hq⟩, ?_⟩
      refine ⟨_, rfl, q, _, _, rfl, rfl, hq, by rw [List.length_map, sizeLine_eq]; omega, ?_⟩
      refine k _ ?_ fun b hb => upd_ne hb
      unfold qAdd
      rw [if_neg h, upd_same, List.map_append]
      rfl
end

/-- a registration as data -/
structure Reg where
  num : Int
  src : Int
  word : Str
  armed : Bool
/-- the entries: labels, with what stands at the address of each -/
def entKV (ls : List Int) (ad : Int → Addr) : List (Key × V) := ls.map fun l => (Sum.inl l, .ref (ad l))
theorem ent_val (ls : List Int) (ad : Int → Addr) (l : Int) : valV (entKV ls ad) (Sum.inl l) = if l ∈ ls then some (.ref (ad l)) else none := by
  induction ls with
  | nil => rfl
  | cons x ls ih =>
    unfold entKV at ih ⊢
    rw [List.map_cons]
    by_cases h : x = l
    · subst h
      rw [valV_pos rfl, if_pos List.mem_cons_self]
    · rw [valV_neg (fun z => h (Sum.inl.inj z)), ih]
      by_cases h2 : l ∈ ls
      · rw [if_pos h2, if_pos (List.mem_cons_of_mem _ h2)]
      · rw [if_neg h2, if_neg fun z => (List.mem_cons.mp z).elim (fun e => h e.symm) h2]
theorem ent_put (ls : List Int) (ad : Int → Addr) (l : Int) (b : Addr) : putK (entKV ls ad) (Sum.inl l) (.ref b) = entKV (if l ∈ ls then ls else ls ++ [l]) (fun j => if j = l then b else ad j) := by
  unfold putK
  rw [valV_any, ent_val]
  by_cases h : l ∈ ls
  · rw [if_pos h, if_pos h]
    show List.map _ (entKV ls ad) = _
    unfold entKV
    rw [List.map_map]
    refine List.map_congr_left fun x _ => ?_
    by_cases e : x = l
    · show (if (Sum.inl x : Key) = Sum.inl l then _ else _) = _
      rw [if_pos (by rw [e])]
      show (_, V.ref b) = (_, V.ref (if x = l then b else ad x))
      rw [if_pos e]
    · show (if (Sum.inl x : Key) = Sum.inl l then _ else _) = _
      rw [if_neg (fun z => e (Sum.inl.inj z))]
      show _ = (_, V.ref (if x = l then b else ad x))
      rw [if_neg e]
  · rw [if_neg h, if_neg h]
    show entKV ls ad ++ _ = _
    unfold entKV
    rw [List.map_append]
    have e1 : ls.map (fun j => ((Sum.inl j : Key), V.ref (if j = l then b else ad j))) = ls.map fun j => (Sum.inl j, V.ref (ad j)) := List.map_congr_left fun x hx => by rw [if_neg fun z : x = l => h (by rw [← z]; exact hx)]
    rw [e1]
    congr 1
    show [(_, V.ref b)] = [(_, V.ref (if l = l then b else ad l))]
    rw [if_pos rfl]
/-- at the labels' addresses stand the registrations -/
def RegsAt (CR : Addr) (H : Hp) (ls : List Int) (ad : Int → Addr) (reg : Int → Reg) : Prop := ∀ l ∈ ls, ∃ dx, H (ad l) = some (regO CR dx (reg l).num (reg l).src (reg l).word (reg l).armed)
section
variable {P : Program} {w : World} {K : PySem.W.Frag} {mg : Str → Option Value} {base : Heap} {CR CW : Addr}
def settled (reg : Int → Reg) (l : Int) : Int → Reg := fun j => if j = l ∧ (reg l).word = "once" then { reg l with armed := false } else reg j
/-! put -/
def spPut (CW : Addr) : Sp := fun vs H Q _ => ∃ (a dx e q b : Addr) (l : Int) (r : Bool) (qs : List Int) (kvs : List (Key × V)), vs = [.ref a, .int l, .ref b, .bl r] ∧ H a = some (wsO CW dx e q) ∧ H q = some (.lst (qs.map V.int)) ∧ H e = some (.dK kvs) ∧ qs.length ≤ 10000 ∧ kvs.length ≤ 10000 ∧
  ∀ H', H' e = some (.dK (putK kvs (Sum.inl l) (.ref b))) → H' q = some (.lst ((if r = true then qAdd l qs else qs).map V.int)) → (∀ x, x ≠ e → x ≠ q → H' x = H x) → Q .non H'
theorem scPut : FnScope ["self", "label", "kept", "ready"] ["self", "label", "kept", "ready"] (defScope sPut) := ⟨rfl, rfl, rfl, by decide +kernel, rfl, by decide +kernel, by decide +kernel⟩
theorem okPut {f fA : Addr} {fd fdA : FuncData} (F : Fun K "put" "WaitingSet.put" sPut f fd) (T : ClsF K CW wsF) (GA : FnOk P w K mg base CX0 1 fA fdA ["self", "label"] (spAppend CW)) (mA : Meth K CW "append_pending" fA) (bA : Binds K fdA ["self", "label"] []) :
    FnOk P w K mg base CX0 2 f fd ["self", "label", "kept", "ready"] (spPut CW) := by
  refine F.ok scPut (fun vs H Q E h => ?_) (fun cdv A outer s H vs Q E hr h => ?_)
  · obtain ⟨_, _, _, _, _, _, _, _, _, rfl, _⟩ := h
    rfl
  · obtain ⟨a, dx, e, q, b, l, r, qs, kvs, rfl, ha, hq, he, hl, hl2, k⟩ := h
    have hu := hu_of hr
    refine ⟨_, pss_cons (ps_dput hu (pe_fld (pv 0) rfl) (pv 1) (pv 2) rfl) (pss_one (ps_if (pt_val (pv 3)) (pss_one (ps_expr (pe_meth (pv 0) T.cl mA GA hr bA .nil pass0 (pa_cons (pv 1) pa_nil)))) pss_nil)), ?_⟩
    have nae : a ≠ e := ne_of ha he (by intro z; cases z)
    have nqe : q ≠ e := ne_of hq he (by intro z; cases z)
    refine ⟨_, rfl, _, rfl, a, CW, dx, _, _, rfl, ha, T.cl, T.no _ (by decide), rfl, ?_⟩
    refine ⟨_, rfl, e, _, rfl, DPut.k (k := Sum.inl l) he (by rw [sizeLine_eq]; omega), ?_⟩
    refine ⟨_, rfl, r, rfl, ?_⟩
    have hq1 : upd H e (.dK (putK kvs (Sum.inl l) (.ref b))) q = some (.lst (qs.map V.int)) := by rw [upd_ne nqe]; exact hq
    cases r with
    | true =>
      walk_at "wn"
      refine ⟨_, rfl, a, dx, _, rfl, by rw [upd_ne nae]; exact ha, rfl, ?_⟩
      walk_at "wn"
      refine ⟨a, dx, e, q, l, qs, rfl, by rw [upd_ne nae]; exact ha, hq1, hl, fun H' h1 h2 => ?_⟩
      refine k H' ?_ h1 fun x n1 n2 => ?_
      · rw [h2 e (Ne.symm nqe), upd_same]
      · rw [h2 x n2, upd_ne n1]
    | false =>
      walk_at "wn"
      exact k _ upd_same hq1 fun x n1 n2 => upd_ne n1
/-! settle -/
def spSettle (CW CR : Addr) : Sp := fun vs H Q _ => ∃ (a dx e q : Addr) (l : Int) (qs ls : List Int) (ad : Int → Addr) (reg : Int → Reg), vs = [.ref a, .int l] ∧ H a = some (wsO CW dx e q) ∧ H q = some (.lst (qs.map V.int)) ∧ H e = some (.dK (entKV ls ad)) ∧ RegsAt CR H ls ad reg ∧ l ∈ ls ∧
  CW ≠ CR ∧ qs.length ≤ 10000 ∧ ls.length ≤ 10000 ∧
  ∀ H' ad', H' e = some (.dK (entKV ls ad')) → H' q = some (.lst ((if (reg l).word = "level" then qs ++ [l] else qs).map V.int)) → (∀ j, j ≠ l → ad' j = ad j) → (ad' l = ad l ∨ H (ad' l) = none) →
    RegsAt CR H' ls ad' (settled reg l) → (∀ x o, x ≠ e → x ≠ q → H x = some o → H' x = some o) → Q .non H'
/-! label_of -/
def keyOf (reg : Int → Reg) (n s : Int) (l : Int) : Bool := decide ((reg l).num = n) && decide ((reg l).src = s)
def spLabelOf (CW CR : Addr) : Sp := fun vs H Q _ => ∃ (a dx e q : Addr) (n s : Int) (ls : List Int) (ad : Int → Addr) (reg : Int → Reg), vs = [.ref a, .int n, .int s] ∧ H a = some (wsO CW dx e q) ∧ H e = some (.dK (entKV ls ad)) ∧ RegsAt CR H ls ad reg ∧
  ∀ H', Same H H' → Q (match ls.find? (keyOf reg n s) with | some l => .int l | none => .non) H'
theorem scLabelOf : FnScope ["self", "number", "source", "label", "kept"] ["self", "number", "source"] (defScope sLabelOf) := ⟨rfl, rfl, rfl, by decide +kernel, rfl, by decide +kernel, by decide +kernel⟩
theorem okLabelOf {f : Addr} {fd : FuncData} (F : Fun K "label_of" "WaitingSet.label_of" sLabelOf f fd) (T : ClsF K CW wsF) (TR : ClsF K CR regF) : FnOk P w K mg base CX0 1 f fd ["self", "number", "source"] (spLabelOf CW CR) := by
  refine F.ok scLabelOf (fun vs H Q E h => ?_) (fun cdv A outer s H vs Q E hr h => ?_)
  · obtain ⟨_, _, _, _, _, _, _, _, _, rfl, _⟩ := h
    rfl
  · obtain ⟨a, dx, e, q, n, s, ls, ad, reg, rfl, ha, he, hR, k⟩ := h
    refine ⟨_, pss_cons (ps_lock (ps_for PassesOwn.never rfl (pi_items (pe_fld (pv 0) rfl)) (pg_tup rfl (pgs_cons (pg_name (i := 3) scLabelOf.nd rfl (Or.inl rfl)) (pgs_cons (pg_name (i := 4) scLabelOf.nd rfl (Or.inl rfl)) pgs_nil)))
        (pss_one (ps_if (PW.pt (pw_and (pt_cmpR op_eq (pe_fld (pv 4) rfl) (pv 1) (nomark _)) (pw_and1 (pt_cmpR op_eq (pe_fld (pv 4) rfl) (pv 2) (nomark _))))) (pss_one (ps_ret (pv 3))) pss_nil))))
      (pss_one (ps_ret pe_non)), ?_⟩
    have nae : a ≠ e := ne_of ha he (by intro z; cases z)
    refine ⟨e, _, he, trivial, fun od => ?_⟩
    have ha1 : upd H e (.frz od (.dK (entKV ls ad))) a = some (wsO CW dx e q) := by rw [upd_ne nae]; exact ha
    refine ⟨_, rfl, a, CW, dx, _, _, rfl, ha1, T.cl, T.no _ (by decide), rfl, ?_⟩
    refine ⟨e, od, entKV ls ad, rfl, upd_same, ?_⟩
    -- behind the lock
    have un : ∀ {H1 : Hp}, Same (upd H e (.frz od (.dK (entKV ls ad)))) H1 → Same H (upd H1 e (.dK (entKV ls ad))) := fun {H1} sm b o e1 => by
      by_cases hb : b = e
      · rw [hb, upd_same, ← he, ← hb, e1]
      · rw [upd_ne hb]
        exact sm _ _ (by rw [upd_ne hb]; exact e1)
    have hR1 : ∀ j ∈ ls, ∃ dx, upd H e (.frz od (.dK (entKV ls ad))) (ad j) = some (regO CR dx (reg j).num (reg j).src (reg j).word (reg j).armed) := fun j hj => by
      obtain ⟨dj, ej⟩ := hR j hj
      exact ⟨dj, by rw [upd_ne (ne_of ej he (by intro z; cases z))]; exact ej⟩
    refine for_it walk_items (fun i σ' H1 => ∃ u v : Option V, σ' = [some (.ref a), some (.int n), some (.int s), u, v] ∧ Same (upd H e (.frz od (.dK (entKV ls ad)))) H1 ∧ ∀ j l, ls[j]? = some l → j < i → keyOf reg n s l = false) ⟨_, _, rfl, Same.refl _, fun _ _ _ z => absurd z (Nat.not_lt_zero _)⟩ (fun i σ' H1 _ ⟨_, _, _, sm, _⟩ => sm _ _ upd_same) ?_ ?_
    · rintro i x σ' H1 H2 hi ⟨u, v, rfl, sm, hn⟩ ⟨T1, x1, y1, rfl, nT, rfl, ex, ey⟩
      have hi' : i < ls.length := by unfold entKV at hi; rwa [List.length_map] at hi
      have e1 : (entKV ls ad)[i]? = some (Sum.inl ls[i], .ref (ad ls[i])) := by
        unfold entKV
        rw [List.getElem?_map, List.getElem?_eq_getElem hi']
        rfl
      have ex : (entKV ls ad)[i]?.map (fun kv => kV kv.1) = some x1 := ex
      have ey : (entKV ls ad)[i]?.map Prod.snd = some y1 := ey
      rw [e1] at ex ey
      cases ex
      cases ey
      have smT := sm.trans (Same.new' (o := .tup [V.int ls[i], V.ref (ad ls[i])]) nT)
      obtain ⟨dr, er⟩ := hR1 ls[i] (List.getElem_mem hi')
      have er2 := smT _ _ er
      refine ⟨T1, _, rfl, SqT.of upd_same, rfl, _, _, rfl, ?_⟩
      walk_at "wn"
      refine ⟨_, _, rfl, ?_⟩
      walk_at "wn"
      refine ⟨rfl, ?_⟩
      refine ⟨_, rfl, ad ls[i], CR, dr, _, _, rfl, er2, TR.cl, TR.no _ (by decide), rfl, _, rfl, rfl, _, rfl, ?_⟩
      have no : keyOf reg n s ls[i] = false → ∃ u v : Option V, ([some (.ref a), some (.int n), some (.int s), some (.int ls[i]), some (.ref (ad ls[i]))] : L2.St) = [some (.ref a), some (.int n), some (.int s), u, v] ∧ Same (upd H e (.frz od (.dK (entKV ls ad)))) (upd H1 T1 (.tup [V.int ls[i], V.ref (ad ls[i])])) ∧ ∀ j l, ls[j]? = some l → j < i + 1 → keyOf reg n s l = false := fun hk => ⟨_, _, rfl, smT, fun j l ej hj => by
        rcases Nat.lt_or_ge j i with z | z
        · exact hn j l ej z
        · obtain rfl : j = i := by omega
          rw [List.getElem?_eq_getElem hi'] at ej
          cases ej
          exact hk⟩
      by_cases h1 : (reg ls[i]).num = n
      · rw [decide_eq_true (by rw [h1])]
        walk_at "wn"
        refine ⟨_, rfl, ad ls[i], CR, dr, _, _, rfl, er2, TR.cl, TR.no _ (by decide), rfl, _, rfl, rfl, _, rfl, ?_⟩
        by_cases h2 : (reg ls[i]).src = s
        · rw [decide_eq_true (by rw [h2])]
          walk_at "wn"
          refine ⟨smT _ _ upd_same, ?_⟩
          have hf : ls.find? (keyOf reg n s) = some ls[i] := by
            rw [List.find?_eq_some_iff_getElem]
            refine ⟨by unfold keyOf; rw [decide_eq_true h1, decide_eq_true h2]; rfl, i, hi', rfl, fun j hj => ?_⟩
            rw [hn j _ (List.getElem?_eq_getElem (by omega)) hj]
            rfl
          have z := k _ (un smT)
          rw [hf] at z
          exact z
        · rw [decide_eq_false fun z => h2 (V.int.inj z)]
          walk_at "wn"
          exact no (by unfold keyOf; rw [decide_eq_false h2, Bool.and_false])
      · rw [decide_eq_false fun z => h1 (V.int.inj z)]
        walk_at "wn"
        exact no (by unfold keyOf; rw [decide_eq_false h1, Bool.false_and])
    · rintro σ' H1 ⟨u, v, rfl, sm, hn⟩
      refine ⟨sm _ _ upd_same, ?_⟩
      walk_at "wn"
      have hf : ls.find? (keyOf reg n s) = none := by
        rw [List.find?_eq_none]
        intro l hl
        obtain ⟨j, hj, rfl⟩ := List.getElem_of_mem hl
        rw [hn j _ (List.getElem?_eq_getElem hj) (by unfold entKV; rw [List.length_map]; exact hj)]
        exact Bool.false_ne_true
      have z := k _ (un sm)
      rw [hf] at z
      exact z
/-! notice -/
def noticeQ (reg : Int → Reg) (s : Int) (ls qs : List Int) : List Int := ls.foldl (fun acc l => if (reg l).src = s ∧ (reg l).armed = true then qAdd l acc else acc) qs
def spNotice (CW CR : Addr) : Sp := fun vs H Q _ => ∃ (a dx e q : Addr) (s : Int) (qs ls : List Int) (ad : Int → Addr) (reg : Int → Reg), vs = [.ref a, .int s] ∧ H a = some (wsO CW dx e q) ∧ H q = some (.lst (qs.map V.int)) ∧ H e = some (.dK (entKV ls ad)) ∧ RegsAt CR H ls ad reg ∧ qs.length ≤ 4000 ∧ ls.length ≤ 4000 ∧
  ∀ H', H' q = some (.lst ((noticeQ reg s ls qs).map V.int)) → (∀ b o, b ≠ q → H b = some o → H' b = some o) → Q .non H'
end

/-! what a wait takes -/
structure TSt where
  reps : List (Int × Int × Bool)
  que : List Int
  reg : Int → Reg
def takeStep (unit : Int → Int × Bool) (s : TSt) (l : Int) : TSt :=
  if decide (0 < (unit (s.reg l).src).1) || (unit (s.reg l).src).2 then ⟨s.reps ++ [(l, (unit (s.reg l).src).1, (unit (s.reg l).src).2)], if (s.reg l).word = "level" then s.que.drop 1 ++ [l] else s.que.drop 1, settled s.reg l⟩ else ⟨s.reps, s.que.drop 1, s.reg⟩
def takeAll (unit : Int → Int × Bool) (most : Int) : List Int → TSt → TSt
  | [], s => s
  | l :: ls, s => if (s.reps.length : Int) = most then s else takeAll unit most ls (takeStep unit s l)
/-- the units of the sources, each a tuple -/
def UnitsAt (H : Hp) (ss : List Int) (ad : Int → Addr) (unit : Int → Int × Bool) : Prop := ∀ s ∈ ss, H (ad s) = some (.tup [.int (unit s).1, .bl (unit s).2])
abbrev RepAt (H : Hp) : V → Int × Int × Bool → Prop := fun v r => ∃ t, v = .ref t ∧ H t = some (.tup [.int r.1, .int r.2.1, .bl r.2.2])
section
variable {P : Program} {w : World} {K : PySem.W.Frag} {mg : Str → Option Value} {base : Heap} {CR CW : Addr}
def spReports (CW CR : Addr) : Sp := fun vs H Q _ => ∃ (a dx e q D : Addr) (most : Int) (qs ls ss : List Int) (ad adS : Int → Addr) (reg : Int → Reg) (unit : Int → Int × Bool), vs = [.ref a, .int most, .ref D] ∧ H a = some (wsO CW dx e q) ∧ H q = some (.lst (qs.map V.int)) ∧ H e = some (.dK (entKV ls ad)) ∧ RegsAt CR H ls ad reg ∧
  H D = some (.dK (entKV ss adS)) ∧ D ≠ e ∧ UnitsAt H ss adS unit ∧ (∀ l ∈ qs, l ∈ ls) ∧ (∀ l ∈ ls, (reg l).src ∈ ss) ∧ CW ≠ CR ∧ (∀ l ∈ ls, ∀ l' ∈ ls, ad l = ad l' → l = l') ∧ qs.length ≤ 1000 ∧ ls.length ≤ 1000 ∧
  ∀ H' r rs q' ad', H' a = some (wsO CW dx e q') → H' q' = some (.lst ((takeAll unit most qs ⟨[], qs, reg⟩).que.map V.int)) → (q' = q ∨ H q' = none) → H' e = some (.dK (entKV ls ad')) → RegsAt CR H' ls ad' (takeAll unit most qs ⟨[], qs, reg⟩).reg →
    (∀ j, ad' j = ad j ∨ H (ad' j) = none) → (∀ l ∈ ls, ∀ l' ∈ ls, ad' l = ad' l' → l = l') → H r = none → r ≠ q' → H' r = some (.lst rs) → Paired (RepAt H') rs (takeAll unit most qs ⟨[], qs, reg⟩).reps → (∀ b o, b ≠ a → b ≠ e → b ≠ q → H b = some o → H' b = some o) → Q (.ref r) H'
structure WsTxt (mg : Str → Option Value) : Prop where
  list : mg "list" = none
  len : mg "len" = none
end

/-! a system, its cells and what stands in them -/
inductive Cell
  | box | tabD | srcD | setD
  | tab (p : Int) | srcT (t : Int) | ws (s : Int) | ent (s : Int) | que (s : Int)
  | reg (s l : Int)
  deriving DecidableEq
structure Sys where
  P : Int
  N : Int
  next : Int
  procs : List Int
  tab : Int → List (Option Int)
  srcs : List Int
  unit : Int → Int × Bool
  sets : List Int
  ents : Int → List Int
  reg : Int → Int → Reg
  que : Int → List Int
def live (S : Sys) : Cell → Prop
  | .box | .tabD | .srcD | .setD => True
  | .tab p => p ∈ S.procs
  | .srcT t => t ∈ S.srcs
  | .ws s | .ent s | .que s => s ∈ S.sets
  | .reg s l => s ∈ S.sets ∧ l ∈ S.ents s
def optV : Option Int → V
  | none => .non
  | some t => .int t
def sysO (CS dx : Addr) (S : Sys) (t s u : Addr) : HO := .ins CS dx [("process_limit", .int S.P), ("number_limit", .int S.N), ("tables", .ref t), ("sources", .ref s), ("sets", .ref u), ("next_thing", .int S.next)]
structure Cs where
  S : Addr
  W : Addr
  R : Addr
def co (C : Cs) (S : Sys) (ad dx : Cell → Addr) : Cell → HO
  | .box => sysO C.S (dx .box) S (ad .tabD) (ad .srcD) (ad .setD)
  | .tabD => .dK (entKV S.procs fun p => ad (.tab p))
  | .srcD => .dK (entKV S.srcs fun t => ad (.srcT t))
  | .setD => .dK (entKV S.sets fun s => ad (.ws s))
  | .tab p => .lst ((S.tab p).map optV)
  | .srcT t => .tup [.int (S.unit t).1, .bl (S.unit t).2]
  | .ws s => wsO C.W (dx (.ws s)) (ad (.ent s)) (ad (.que s))
  | .ent s => .dK (entKV (S.ents s) fun l => ad (.reg s l))
  | .que s => .lst ((S.que s).map V.int)
  | .reg s l => regO C.R (dx (.reg s l)) (S.reg s l).num (S.reg s l).src (S.reg s l).word (S.reg s l).armed
structure At (C : Cs) (H : Hp) (S : Sys) (ad dx : Cell → Addr) : Prop where
  at_ : ∀ c, live S c → H (ad c) = some (co C S ad dx c)
  inj : ∀ c c', live S c → live S c' → ad c = ad c' → c = c'
def own (S : Sys) (ad : Cell → Addr) (b : Addr) : Prop := ∃ c, live S c ∧ ad c = b
/-- what lies outside stays; what comes in is new -/
structure Step (H : Hp) (S : Sys) (ad : Cell → Addr) (H' : Hp) (S' : Sys) (ad' : Cell → Addr) : Prop where
  keep : ∀ b o, ¬ own S ad b → H b = some o → H' b = some o
  new : ∀ b, own S' ad' b → own S ad b ∨ H b = none
  box : ad' .box = ad .box
section
variable {C : Cs} {H H' H2 : Hp} {S S' S2 : Sys} {ad ad' ad2 dx dx' : Cell → Addr}
theorem Step.refl : Step H S ad H S ad := ⟨fun _ _ _ z => z, fun _ z => .inl z, rfl⟩
theorem Step.trans (a : Step H S ad H' S' ad') (b : Step H' S' ad' H2 S2 ad2) : Step H S ad H2 S2 ad2 := by
  refine ⟨fun x o n e => b.keep x o (fun z => ?_) (a.keep x o n e), fun x z => ?_, b.box.trans a.box⟩
  · rcases a.new x z with y | y
    · exact n y
    · rw [y] at e
      cases e
  · rcases b.new x z with y | y
    · exact a.new x y
    · cases e : H x with
      | none => exact .inr rfl
      | some o =>
        by_cases w : own S ad x
        · exact .inl w
        · rw [a.keep x o w e] at y
          cases y
theorem Step.same (s : Same H H') : Step H S ad H' S ad := ⟨fun b o _ e => s _ _ e, fun _ z => .inl z, rfl⟩
theorem At.same (A : At C H S ad dx) (s : Same H H') : At C H' S ad dx := ⟨fun c hc => s _ _ (A.at_ c hc), A.inj⟩
theorem At.ne (A : At C H S ad dx) {c c' : Cell} (h : live S c) (h' : live S c') (n : c ≠ c') : ad c ≠ ad c' := fun z => n (A.inj c c' h h' z)
end
section
variable {P : Program} {w : World} {K : PySem.W.Frag} {mg : Str → Option Value} {base : Heap} {C : Cs}
structure MO (P : Program) (w : World) (K : PySem.W.Frag) (mg : Str → Option Value) (base : Heap) (k : Nat) (C : Addr) (m : Str) (ps : List Str) (sp : Sp) (f : Addr) (fd : FuncData) : Prop where
  g : FnOk P w K mg base CX0 k f fd ps sp
  m : Meth K C m f
  b : Binds K fd ps []
structure DO (P : Program) (w : World) (K : PySem.W.Frag) (mg : Str → Option Value) (base : Heap) (k : Nat) (x : Str) (ps : List Str) (sp : Sp) (f : Addr) (fd : FuncData) : Prop where
  g : FnOk P w K mg base CX0 k f fd ps sp
  k : PySem.W.keepIn K (.ref f) = true
  m : mg x = some (.ref f)
  b : Binds K fd ps []
/-- a call on a system -/
def OnSys (C : Cs) (vs : List V) (H : Hp) (rest : List V) (k : Sys → (Cell → Addr) → (Cell → Addr) → Prop) : Prop := ∃ (S : Sys) (ad dx : Cell → Addr), vs = .ref (ad .box) :: rest ∧ At C H S ad dx ∧ k S ad dx
def spContains (C : Cs) : Sp := fun vs H Q _ => ∃ p : Int, OnSys C vs H [.int p] fun S _ _ => Q (.bl (decide (p ∈ S.procs))) H
theorem scContains : FnScope ["self", "x"] ["self", "x"] (defScope sContains) := ⟨rfl, rfl, rfl, by decide +kernel, rfl, by decide +kernel, by decide +kernel⟩
theorem okContains {f fI : Addr} {fd fdI : FuncData} (F : Fun K "__contains__" "System.__contains__" sContains f fd) (T : ClsF K C.S sysF) (GI : DO P w K mg base 1 "is_integer" ["x"] spIsInteger fI fdI) : FnOk P w K mg base CX0 2 f fd ["self", "x"] (spContains C) := by
  refine F.ok scContains (fun vs H Q E h => ?_) (fun cdv A outer s H vs Q E hr h => ?_)
  · obtain ⟨_, _, _, _, rfl, _⟩ := h
    rfl
  · obtain ⟨p, S, ad, dx, rfl, A0, k⟩ := h
    have hu := hu_of hr
    refine ⟨_, pss_one (ps_ret (pe_and (pe_call GI.g hr (by rfl) GI.m GI.k GI.b .nil pass0 (pa_cons (pv 1) pa_nil)) (pe_one (pe_cmp (pc_din hu (pv 1) (pe_fld (pv 0) rfl)) rfl)))), ?_⟩
    walk_at "wn"
    refine ⟨p, rfl, ?_⟩
    walk_at "wn"
    refine ⟨_, rfl, _, rfl, ad .box, C.S, dx .box, _, _, rfl, A0.at_ .box trivial, T.cl, T.no _ (by decide), rfl, ?_⟩
    refine ⟨ad .tabD, _, rfl, DGet.k (k := Sum.inl p) (A0.at_ .tabD trivial), ?_⟩
    rw [ent_val]
    by_cases hp : p ∈ S.procs
    · rw [if_pos hp]
      rw [decide_eq_true hp] at k
      exact k
    · rw [if_neg hp]
      rw [decide_eq_false hp] at k
      exact k
def spTableOf (C : Cs) : Sp := fun vs H Q _ => ∃ p : Int, OnSys C vs H [.int p] fun S ad _ => p ∈ S.procs ∧ Q (.ref (ad (.tab p))) H
theorem scTableOf : FnScope ["self", "process"] ["self", "process"] (defScope sTableOf) := ⟨rfl, rfl, rfl, by decide +kernel, rfl, by decide +kernel, by decide +kernel⟩
theorem okTableOf {f fC : Addr} {fd fdC : FuncData} (F : Fun K "table_of" "System.table_of" sTableOf f fd) (T : ClsF K C.S sysF) (GC : MO P w K mg base 2 C.S "__contains__" ["self", "x"] (spContains C) fC fdC) : FnOk P w K mg base CX0 3 f fd ["self", "process"] (spTableOf C) := by
  refine F.ok scTableOf (fun vs H Q E h => ?_) (fun cdv A outer s H vs Q E hr h => ?_)
  · obtain ⟨_, _, _, _, rfl, _⟩ := h
    rfl
  · obtain ⟨p, S, ad, dx, rfl, A0, hp, k⟩ := h
    have hu := hu_of hr
    refine ⟨_, pss_cons (ps_if (pt_cmpR (op_ownNotIn GC.g hr GC.m.at_ GC.m.fn GC.b pass0) (pv 1) (pv 0) (by rfl)) (pss_one ps_never) pss_nil)
      (pss_one (ps_ret (pe_dget hu (pe_fld (pv 0) rfl) (pv 1) (fun _ _ => rfl)))), ?_⟩
    walk_at "wn"
    refine ⟨ad .box, dx .box, _, rfl, A0.at_ .box trivial, p, S, ad, dx, rfl, A0, _, rfl, ?_⟩
    rw [decide_eq_true hp]
    walk_at "wn"
    refine ⟨_, rfl, ad .box, C.S, dx .box, _, _, rfl, A0.at_ .box trivial, T.cl, T.no _ (by decide), rfl, ?_⟩
    have hv : valV (entKV S.procs fun p => ad (.tab p)) (Sum.inl p) = some (.ref (ad (.tab p))) := by rw [ent_val, if_pos hp]
    exact ⟨_, rfl, ad .tabD, _, rfl, hv ▸ DGet.k (k := Sum.inl p) (A0.at_ .tabD trivial), k⟩
def spIsTabNum (C : Cs) : Sp := fun vs H Q _ => ∃ n : Int, OnSys C vs H [.int n] fun S _ _ => Q (.bl (decide (0 ≤ n) && decide (n ≤ S.N - 1))) H
theorem scIsTabNum : FnScope ["self", "number"] ["self", "number"] (defScope sIsTabNum) := ⟨rfl, rfl, rfl, by decide +kernel, rfl, by decide +kernel, by decide +kernel⟩
theorem okIsTabNum {f fB : Addr} {fd fdB : FuncData} (F : Fun K "is_table_number" "System.is_table_number" sIsTabNum f fd) (T : ClsF K C.S sysF) (GB : DO P w K mg base 2 "is_between" ["x", "least", "most"] spIsBetween fB fdB) : FnOk P w K mg base CX0 3 f fd ["self", "number"] (spIsTabNum C) := by
  refine F.ok scIsTabNum (fun vs H Q E h => ?_) (fun cdv A outer s H vs Q E hr h => ?_)
  · obtain ⟨_, _, _, _, rfl, _⟩ := h
    rfl
  · obtain ⟨n, S, ad, dx, rfl, A0, k⟩ := h
    refine ⟨_, pss_one (ps_ret (pe_call GB.g hr (by rfl) GB.m GB.k GB.b .nil pass0 (pa_cons (pv 1) (pa_cons pe_int (pa_cons (pe_op op_sub (pe_fld (pv 0) rfl) pe_int) pa_nil))))), ?_⟩
    walk_at "wn"
    refine ⟨_, rfl, ad .box, C.S, dx .box, _, _, rfl, A0.at_ .box trivial, T.cl, T.no _ (by decide), rfl, ?_⟩
    walk_at "wn"
    exact ⟨n, 0, S.N - 1, rfl, k⟩
/-- a number that means a thing -/
structure Means (S : Sys) (p n t : Int) : Prop where
  pr : p ∈ S.procs
  lo : 0 ≤ n
  hi : n ≤ S.N - 1
  at_ : (S.tab p)[n.toNat]? = some (some t)
def spThingAt (C : Cs) : Sp := fun vs H Q _ => ∃ p n t : Int, OnSys C vs H [.int p, .int n] fun S _ _ => Means S p n t ∧ Q (.int t) H
theorem scThingAt : FnScope ["self", "process", "number", "table"] ["self", "process", "number"] (defScope sThingAt) := ⟨rfl, rfl, rfl, by decide +kernel, rfl, by decide +kernel, by decide +kernel⟩
theorem okThingAt {f fT fN : Addr} {fd fdT fdN : FuncData} (F : Fun K "thing_at" "System.thing_at" sThingAt f fd) (T : ClsF K C.S sysF) (GT : MO P w K mg base 3 C.S "table_of" ["self", "process"] (spTableOf C) fT fdT) (GN : MO P w K mg base 3 C.S "is_table_number" ["self", "number"] (spIsTabNum C) fN fdN) :
    FnOk P w K mg base CX0 4 f fd ["self", "process", "number"] (spThingAt C) := by
  refine F.ok scThingAt (fun vs H Q E h => ?_) (fun cdv A outer s H vs Q E hr h => ?_)
  · obtain ⟨_, _, _, _, _, _, rfl, _⟩ := h
    rfl
  · obtain ⟨p, n, t, S, ad, dx, rfl, A0, M, k⟩ := h
    refine ⟨_, pss_cons (ps_set (i := 3) scThingAt.nd rfl (Or.inl rfl) (pe_meth (pv 0) T.cl GT.m GT.g hr GT.b .nil pass0 (pa_cons (pv 1) pa_nil)))
      (pss_cons (ps_if (PW.pt (pw_or (pt_not (pt_val (pe_meth (pv 0) T.cl GN.m GN.g hr GN.b .nil pass0 (pa_cons (pv 2) pa_nil)))) (pw_or1 (pt_cmpR oIsN (pe_ix ix_list (pv 3) (pv 2) (fun _ _ => rfl)) pe_non (nomark _))))) (pss_one ps_never) pss_nil)
      (pss_one (ps_ret (pe_ix ix_list (pv 3) (pv 2) (fun _ _ => rfl))))), ?_⟩
    have hb := A0.at_ .box trivial
    have ht := A0.at_ (.tab p) M.pr
    obtain ⟨m, hm⟩ := Int.eq_ofNat_of_zero_le M.lo
    have hat : atI ((S.tab p).map optV) n = some (V.int t) := by
      have e := M.at_
      rw [hm] at e ⊢
      refine atI_nat ?_
      rw [List.getElem?_map, show (S.tab p)[m]? = some (some t) from e]
      rfl
    walk_at "wn"
    refine ⟨_, rfl, ad .box, dx .box, _, rfl, hb, rfl, ?_⟩
    walk_at "wn"
    refine ⟨p, S, ad, dx, rfl, A0, M.pr, ?_⟩
    walk_at "wn"
    refine ⟨_, rfl, ad .box, dx .box, _, rfl, hb, rfl, ?_⟩
    walk_at "wn"
    refine ⟨n, S, ad, dx, rfl, A0, ?_⟩
    dsimp only
    rw [decide_eq_true M.lo, decide_eq_true M.hi]
    walk_at "wn"
    refine ⟨_, rfl, ?_⟩
    walk_at "wn"
    refine ⟨ad (.tab p), _, n, _, rfl, rfl, SqL.of ht, hat, ?_⟩
    walk_at "wn"
    have e : decide (V.int t = V.non) = false := decide_eq_false fun z => nomatch z
    rw [e]
    walk_at "wn"
    exact ⟨ad (.tab p), _, n, _, rfl, rfl, SqL.of ht, hat, k⟩
def spSourceAt (C : Cs) : Sp := fun vs H Q _ => ∃ p n t : Int, OnSys C vs H [.int p, .int n] fun S _ _ => Means S p n t ∧ t ∈ S.srcs ∧ Q (.int t) H
theorem scSourceAt : FnScope ["self", "process", "number", "thing"] ["self", "process", "number"] (defScope sSourceAt) := ⟨rfl, rfl, rfl, by decide +kernel, rfl, by decide +kernel, by decide +kernel⟩
theorem okSourceAt {f fT : Addr} {fd fdT : FuncData} (F : Fun K "source_at" "System.source_at" sSourceAt f fd) (T : ClsF K C.S sysF) (GT : MO P w K mg base 4 C.S "thing_at" ["self", "process", "number"] (spThingAt C) fT fdT) :
    FnOk P w K mg base CX0 5 f fd ["self", "process", "number"] (spSourceAt C) := by
  refine F.ok scSourceAt (fun vs H Q E h => ?_) (fun cdv A outer s H vs Q E hr h => ?_)
  · obtain ⟨_, _, _, _, _, _, rfl, _⟩ := h
    rfl
  · obtain ⟨p, n, t, S, ad, dx, rfl, A0, M, ht, k⟩ := h
    have hu := hu_of hr
    refine ⟨_, pss_cons (ps_set (i := 3) scSourceAt.nd rfl (Or.inl rfl) (pe_meth (pv 0) T.cl GT.m GT.g hr GT.b .nil pass0 (pa_cons (pv 1) (pa_cons (pv 2) pa_nil))))
      (pss_cons (ps_if (pt_cmp (pc_dnotin hu (pv 3) (pe_fld (pv 0) rfl)) rfl) (pss_one ps_never) pss_nil)
      (pss_one (ps_ret (pv 3)))), ?_⟩
    have hb := A0.at_ .box trivial
    walk_at "wn"
    refine ⟨_, rfl, ad .box, dx .box, _, rfl, hb, rfl, ?_⟩
    walk_at "wn"
    refine ⟨p, n, t, S, ad, dx, rfl, A0, M, ?_⟩
    walk_at "wn"
    refine ⟨_, rfl, _, rfl, ad .box, C.S, dx .box, _, _, rfl, hb, T.cl, T.no _ (by decide), rfl, ?_⟩
    refine ⟨ad .srcD, _, rfl, DGet.k (k := Sum.inl t) (A0.at_ .srcD trivial), ?_⟩
    rw [ent_val, if_pos ht]
    refine ⟨_, rfl, ?_⟩
    show if false = true then _ else _
    walk_at "wn"
    exact k
def spSetAt (C : Cs) : Sp := fun vs H Q _ => ∃ p n t : Int, OnSys C vs H [.int p, .int n] fun S ad _ => Means S p n t ∧ t ∈ S.sets ∧ Q (.ref (ad (.ws t))) H
theorem scSetAt : FnScope ["self", "process", "set_number", "thing"] ["self", "process", "set_number"] (defScope sSetAt) := ⟨rfl, rfl, rfl, by decide +kernel, rfl, by decide +kernel, by decide +kernel⟩
theorem okSetAt {f fT : Addr} {fd fdT : FuncData} (F : Fun K "set_at" "System.set_at" sSetAt f fd) (T : ClsF K C.S sysF) (GT : MO P w K mg base 4 C.S "thing_at" ["self", "process", "number"] (spThingAt C) fT fdT) :
    FnOk P w K mg base CX0 5 f fd ["self", "process", "set_number"] (spSetAt C) := by
  refine F.ok scSetAt (fun vs H Q E h => ?_) (fun cdv A outer s H vs Q E hr h => ?_)
  · obtain ⟨_, _, _, _, _, _, rfl, _⟩ := h
    rfl
  · obtain ⟨p, n, t, S, ad, dx, rfl, A0, M, ht, k⟩ := h
    have hu := hu_of hr
    refine ⟨_, pss_cons (ps_set (i := 3) scSetAt.nd rfl (Or.inl rfl) (pe_meth (pv 0) T.cl GT.m GT.g hr GT.b .nil pass0 (pa_cons (pv 1) (pa_cons (pv 2) pa_nil))))
      (pss_cons (ps_if (pt_cmp (pc_dnotin hu (pv 3) (pe_fld (pv 0) rfl)) rfl) (pss_one ps_never) pss_nil)
      (pss_one (ps_ret (pe_dget hu (pe_fld (pv 0) rfl) (pv 3) (fun _ _ => rfl))))), ?_⟩
    have hb := A0.at_ .box trivial
    walk_at "wn"
    refine ⟨_, rfl, ad .box, dx .box, _, rfl, hb, rfl, ?_⟩
    walk_at "wn"
    refine ⟨p, n, t, S, ad, dx, rfl, A0, M, ?_⟩
    walk_at "wn"
    have hv : valV (entKV S.sets fun s => ad (.ws s)) (Sum.inl t) = some (.ref (ad (.ws t))) := by rw [ent_val, if_pos ht]
    refine ⟨_, rfl, _, rfl, ad .box, C.S, dx .box, _, _, rfl, hb, T.cl, T.no _ (by decide), rfl, ?_⟩
    refine ⟨ad .setD, _, rfl, DGet.k (k := Sum.inl t) (A0.at_ .setD trivial), ?_⟩
    rw [ent_val, if_pos ht]
    refine ⟨_, rfl, ?_⟩
    show if false = true then _ else _
    walk_at "wn"
    refine ⟨_, rfl, ad .box, C.S, dx .box, _, _, rfl, hb, T.cl, T.no _ (by decide), rfl, ?_⟩
    exact ⟨_, rfl, ad .setD, _, rfl, hv ▸ DGet.k (k := Sum.inl t) (A0.at_ .setD trivial), k⟩
/-! free_number -/
def firstFree (t : List (Option Int)) (n : Nat) : Prop := t[n]? = some none ∧ ∀ i, i < n → ∃ x, t[i]? = some (some x)
def spFreeNum (C : Cs) : Sp := fun vs H Q _ => ∃ (p : Int) (n : Nat), OnSys C vs H [.int p] fun S _ _ => p ∈ S.procs ∧ firstFree (S.tab p) n ∧ (S.tab p).length ≤ 1000 ∧ ∀ H', Same H H' → Q (.int (n : Int)) H'
theorem scFreeNum : FnScope ["self", "process", "number", "thing"] ["self", "process"] (defScope sFreeNum) := ⟨rfl, rfl, rfl, by decide +kernel, rfl, by decide +kernel, by decide +kernel⟩
structure SysTxt (mg : Str → Option Value) : Prop where
  enum : mg "enumerate" = none
  list : mg "list" = none
  min : mg "min" = none
end

section
variable {C : Cs} {H H' H2 : Hp} {S S' S2 : Sys} {ad ad' ad2 dx dx' : Cell → Addr}
/-- some cells are written, made or stand elsewhere; the others stay -/
theorem At.re3 (ch : List Cell) (A : At C H S ad dx) (hl : ∀ c, live S' c → c ∈ ch ∨ live S c) (h1 : ∀ c ∈ ch, live S' c → H' (ad' c) = some (co C S' ad' dx' c)) (h2 : ∀ c, c ∉ ch → live S c → ad' c = ad c ∧ co C S' ad' dx' c = co C S ad dx c)
    (fresh : ∀ c ∈ ch, live S' c → (ad' c = ad c ∧ live S c) ∨ H (ad' c) = none) (dist : ∀ c ∈ ch, ∀ c' ∈ ch, live S' c → live S' c' → H (ad' c) = none → ad' c = ad' c' → c = c')
    (k : ∀ b o, (∀ c ∈ ch, live S c → b ≠ ad c) → H b = some o → H' b = some o) (box : ad' .box = ad .box) : At C H' S' ad' dx' ∧ Step H S ad H' S' ad' := by
  have out : ∀ c, c ∉ ch → live S' c → live S c := fun c hc l => (hl c l).resolve_left hc
  have keep : ∀ c, c ∉ ch → live S c → H' (ad c) = H (ad c) := fun c hc l => by
    rw [A.at_ c l]
    exact k _ _ (fun c' hc' l' z => hc (by rw [A.inj c c' l l' z]; exact hc')) (A.at_ c l)
  refine ⟨⟨fun c l => ?_, fun c c' l l' z => ?_⟩, ⟨fun b o n e => k b o (fun c hc lc z => n ⟨c, lc, z.symm⟩) e, fun b ⟨c, l, e⟩ => ?_, box⟩⟩
  · by_cases hc : c ∈ ch
    · exact h1 c hc l
    · have ls := out c hc l
      obtain ⟨e1, e2⟩ := h2 c hc ls
      rw [e1, e2, keep c hc ls]
      exact A.at_ c ls
  · have some_ : ∀ c, c ∉ ch → live S' c → H (ad' c) ≠ none := fun c hc l z => by
      have ls := out c hc l
      rw [(h2 c hc ls).1, A.at_ c ls] at z
      cases z
    by_cases hc : c ∈ ch
    · by_cases hc' : c' ∈ ch
      · rcases fresh c hc l with f | f
        · rcases fresh c' hc' l' with f' | f'
          · exact A.inj c c' f.2 f'.2 (by rw [← f.1, ← f'.1, z])
          · rw [← z, f.1, A.at_ c f.2] at f'
            cases f'
        · exact dist c hc c' hc' l l' f z
      · rcases fresh c hc l with f | f
        · have ls := out c' hc' l'
          exact A.inj c c' f.2 ls (by rw [← f.1, z, (h2 c' hc' ls).1])
        · rw [z] at f
          exact absurd f (some_ c' hc' l')
    · have ls := out c hc l
      by_cases hc' : c' ∈ ch
      · rcases fresh c' hc' l' with f | f
        · exact A.inj c c' ls f.2 (by rw [← f.1, ← z, (h2 c hc ls).1])
        · rw [← z] at f
          exact absurd f (some_ c hc l)
      · have ls' := out c' hc' l'
        exact A.inj c c' ls ls' (by rw [← (h2 c hc ls).1, z, (h2 c' hc' ls').1])
  · by_cases hc : c ∈ ch
    · rcases fresh c hc l with f | f
      · exact .inl ⟨c, f.2, by rw [← f.1]; exact e⟩
      · rw [e] at f
        exact .inr f
    · have ls := out c hc l
      exact .inl ⟨c, ls, by rw [← (h2 c hc ls).1]; exact e⟩
/-- where the addresses stay -/
theorem At.re2 (ch : List Cell) (A : At C H S ad dx) (hl : ∀ c, live S' c → live S c) (lv : ∀ c ∈ ch, live S c) (h1 : ∀ c ∈ ch, H' (ad c) = some (co C S' ad dx c)) (h2 : ∀ c, c ∉ ch → live S c → co C S' ad dx c = co C S ad dx c)
    (k : ∀ b o, (∀ c ∈ ch, b ≠ ad c) → H b = some o → H' b = some o) : At C H' S' ad dx ∧ Step H S ad H' S' ad :=
  At.re3 ch A (fun c l => .inr (hl c l)) (fun c hc _ => h1 c hc) (fun c hc l => ⟨rfl, h2 c hc l⟩) (fun c hc l => .inl ⟨rfl, hl c l⟩) (fun c hc c' hc' l l' _ z => A.inj c c' (hl c l) (hl c' l') z)
    (fun b o n e => k b o (fun c hc => n c hc (lv c hc)) e) rfl
theorem At.not_own (A : At C H S ad dx) {l : Addr} (n : H l = none) : ¬ own S ad l := fun ⟨c, h, e⟩ => by
  rw [← e, A.at_ c h] at n
  cases n
end
theorem nodup_idx {α : Type} : ∀ {l : List α} {i j : Nat} {a : α}, l.Nodup → l[i]? = some a → l[j]? = some a → i = j
  | [], i, _, _, _, h, _ => by simp at h
  | _ :: _, 0, 0, _, _, _, _ => rfl
  | x :: l, 0, j + 1, a, nd, h, h' => by
    obtain rfl : x = a := by simpa using h
    exact absurd (List.mem_of_getElem? (show l[j]? = some x from h')) (List.nodup_cons.mp nd).1
  | x :: l, i + 1, 0, a, nd, h, h' => by
    obtain rfl : x = a := by simpa using h'
    exact absurd (List.mem_of_getElem? (show l[i]? = some x from h)) (List.nodup_cons.mp nd).1
  | x :: l, i + 1, j + 1, a, nd, h, h' => by rw [nodup_idx (List.nodup_cons.mp nd).2 (show l[i]? = some a from h) (show l[j]? = some a from h')]
def newThing (S : Sys) (p : Int) (n : Nat) : Sys := { S with next := S.next + 1, tab := fun q => if q = p then (S.tab p).set n (some S.next) else S.tab q }
section
variable {P : Program} {w : World} {K : PySem.W.Frag} {mg : Str → Option Value} {base : Heap} {C : Cs}
def spNewThing (C : Cs) : Sp := fun vs H Q _ => ∃ (p : Int) (n : Nat), OnSys C vs H [.int p] fun S ad dx => p ∈ S.procs ∧ firstFree (S.tab p) n ∧ (S.tab p).length ≤ 1000 ∧
  ∀ H' T, H T = none → H' T = some (.tup [.int (n : Int), .int S.next]) → At C H' (newThing S p n) ad dx → Step H S ad H' (newThing S p n) ad → Q (.ref T) H'
theorem scNewThing : FnScope ["self", "process", "number", "thing"] ["self", "process"] (defScope sNewThing) := ⟨rfl, rfl, rfl, by decide +kernel, rfl, by decide +kernel, by decide +kernel⟩
/-! unread_of_unfinished, is_ready -/
def spUnfinished (C : Cs) : Sp := fun vs H Q _ => ∃ t n : Int, OnSys C vs H [.int t, .int n] fun S _ _ => t ∈ S.srcs ∧ (S.unit t).2 = false ∧ Q (.int (S.unit t).1) H
def ready (S : Sys) (t : Int) : Bool := decide (0 < (S.unit t).1) || (S.unit t).2
def spIsReady (C : Cs) : Sp := fun vs H Q _ => ∃ t : Int, OnSys C vs H [.int t] fun S _ _ => t ∈ S.srcs ∧ Q (.bl (ready S t)) H
theorem scIsReady : FnScope ["self", "source", "unread", "finished"] ["self", "source"] (defScope sIsReady) := ⟨rfl, rfl, rfl, by decide +kernel, rfl, by decide +kernel, by decide +kernel⟩
theorem okIsReady {f : Addr} {fd : FuncData} (F : Fun K "is_ready" "System.is_ready" sIsReady f fd) (T : ClsF K C.S sysF) : FnOk P w K mg base CX0 1 f fd ["self", "source"] (spIsReady C) := by
  refine F.ok scIsReady (fun vs H Q E h => ?_) (fun cdv A outer s H vs Q E hr h => ?_)
  · obtain ⟨_, _, _, _, rfl, _⟩ := h
    rfl
  · obtain ⟨t, S, ad, dx, rfl, A0, ht, k⟩ := h
    have hu := hu_of hr
    refine ⟨_, pss_cons (ps_asg (pe_dget hu (pe_fld (pv 0) rfl) (pv 1) (fun _ _ => rfl)) (pg_tup rfl (pgs_cons (pg_name (i := 2) scIsReady.nd rfl (Or.inl rfl)) (pgs_cons (pg_name (i := 3) scIsReady.nd rfl (Or.inl rfl)) pgs_nil))))
      (pss_one (ps_ret (pe_or (pe_cmpR op_gt (pv 2) pe_int (nomark _)) (pe_one (pv 3))))), ?_⟩
    have hv : valV (entKV S.srcs fun t => ad (.srcT t)) (Sum.inl t) = some (.ref (ad (.srcT t))) := by rw [ent_val, if_pos ht]
    walk_at "wn"
    refine ⟨_, rfl, ad .box, C.S, dx .box, _, _, rfl, A0.at_ .box trivial, T.cl, T.no _ (by decide), rfl, ?_⟩
    refine ⟨_, rfl, ad .srcD, _, rfl, hv ▸ DGet.k (k := Sum.inl t) (A0.at_ .srcD trivial), ?_⟩
    refine ⟨ad (.srcT t), _, rfl, SqT.of (A0.at_ (.srcT t) ht), rfl, _, _, rfl, ?_⟩
    walk_at "wn"
    refine ⟨_, _, rfl, ?_⟩
    walk_at "wn"
    refine ⟨rfl, ?_⟩
    walk_at "wn"
    unfold ready at k
    refine ite2 (fun hd => ?_) (fun hd => ?_)
    · rw [show decide (0 < (S.unit t).1) = true from hd, Bool.true_or] at k
      exact k
    · rw [show decide (0 < (S.unit t).1) = false from Bool.eq_false_iff.mpr hd, Bool.false_or] at k
      exact ⟨_, rfl, k⟩
/-! notify -/
def notified (S : Sys) (t : Int) : Sys := { S with que := fun s => if s ∈ S.sets then noticeQ (S.reg s) t (S.ents s) (S.que s) else S.que s }
structure Small (S : Sys) : Prop where
  que : ∀ s ∈ S.sets, (S.que s).length ≤ 900
  ents : ∀ s ∈ S.sets, (S.ents s).length ≤ 900
  srcs : S.srcs.length ≤ 900
  sets : S.sets.length ≤ 900
  nd : S.sets.Nodup
def spNotify (C : Cs) : Sp := fun vs H Q _ => ∃ t : Int, OnSys C vs H [.int t] fun S ad dx => Small S ∧ ∀ H', At C H' (notified S t) ad dx → Step H S ad H' (notified S t) ad → Q .non H'
end

def setA (ad : Cell → Addr) (c0 : Cell) (T : Addr) : Cell → Addr := fun c => if c = c0 then T else ad c
theorem setA_same {ad : Cell → Addr} {c0 : Cell} {T : Addr} : setA ad c0 T c0 = T := if_pos rfl
theorem setA_ne {ad : Cell → Addr} {c0 c : Cell} {T : Addr} (h : c ≠ c0) : setA ad c0 T c = ad c := if_neg h
theorem srcT_fun (ad : Cell → Addr) (t : Int) (T : Addr) : (fun j => if j = t then T else ad (.srcT j)) = fun j => setA ad (.srcT t) T (.srcT j) := by
  funext j
  by_cases h : j = t
  · rw [if_pos h, h, setA_same]
  · rw [if_neg h, setA_ne fun z => h (by cases z; rfl)]
def withUnit (S : Sys) (t u : Int) (f : Bool) : Sys := { S with unit := fun j => if j = t then (u, f) else S.unit j }
section
variable {C : Cs} {H : Hp} {S : Sys} {ad dx : Cell → Addr}
end
section
variable {P : Program} {w : World} {K : PySem.W.Frag} {mg : Str → Option Value} {base : Heap} {C : Cs}
def arrived (S : Sys) (t m : Int) : Sys := notified (withUnit S t ((S.unit t).1 + m) false) t
def spArrive (C : Cs) : Sp := fun vs H Q _ => ∃ p n t m : Int, OnSys C vs H [.int p, .int n, .int m] fun S ad dx => Means S p n t ∧ t ∈ S.srcs ∧ (S.unit t).2 = false ∧ 1 ≤ m ∧ m ≤ 1000000 ∧ Small S ∧ ∀ H' ad', At C H' (arrived S t m) ad' dx → Step H S ad H' (arrived S t m) ad' → Q .non H'
/-! read -/
def taken (u : Int) : Option Int → Int
  | none => u
  | some m => if u < m then u else m
def readS (S : Sys) (t : Int) (mo : Option Int) : Sys := withUnit S t ((S.unit t).1 - taken (S.unit t).1 mo) (S.unit t).2
def spRead (C : Cs) : Sp := fun vs H Q _ => ∃ (p n t : Int) (mo : Option Int), OnSys C vs H [.int p, .int n, optV mo] fun S ad dx => Means S p n t ∧ t ∈ S.srcs ∧ (∀ m, mo = some m → 1 ≤ m ∧ m ≤ 1000000) ∧ Small S ∧ ∀ H' ad', At C H' (readS S t mo) ad' dx → Step H S ad H' (readS S t mo) ad' → Q (.int (taken (S.unit t).1 mo)) H'
/-! row_of -/
end

theorem reg_fun (ad : Cell → Addr) (s l : Int) (T : Addr) : (fun j => if j = l then T else ad (.reg s j)) = fun j => setA ad (.reg s l) T (.reg s j) := by
  funext j
  by_cases h : j = l
  · rw [if_pos h, h, setA_same]
  · rw [if_neg h, setA_ne fun z => h (by cases z; rfl)]
def added (S : Sys) (s l : Int) (r : Reg) : Sys := { S with
  ents := fun j => if j = s then S.ents s ++ [l] else S.ents j
  reg := fun j i => if j = s ∧ i = l then r else S.reg j i
  que := fun j => if j = s then (if ready S r.src = true then qAdd l (S.que s) else S.que s) else S.que j }
section
variable {P : Program} {w : World} {K : PySem.W.Frag} {mg : Str → Option Value} {base : Heap} {C : Cs}
def spAdd (C : Cs) : Sp := fun vs H Q _ => ∃ (p sn n l s t : Int) (wd : Str), OnSys C vs H [.int p, .int sn, .int n, .int l, .str wd] fun S ad dx => Means S p sn s ∧ s ∈ S.sets ∧ Means S p n t ∧ t ∈ S.srcs ∧ 0 ≤ l ∧ l ≤ 999999 ∧ wd ∈ wordsL ∧ (S.ents s).find? (keyOf (S.reg s) n t) = none ∧ l ∉ S.ents s ∧ Small S ∧
  ∀ H' ad' dx', At C H' (added S s l ⟨n, t, wd, true⟩) ad' dx' → Step H S ad H' (added S s l ⟨n, t, wd, true⟩) ad' → Q .non H'
theorem scAdd : FnScope ["self", "process", "set_number", "number", "label", "word", "waiting", "source"] ["self", "process", "set_number", "number", "label", "word"] (defScope sAdd) := ⟨rfl, rfl, rfl, by decide +kernel, rfl, by decide +kernel, by decide +kernel⟩
theorem okAdd {dvs : List V} {kws : List (Str × V)} {f fW fS fL fD fO fR fI fP : Addr} {fd fdW fdS fdL fdD fdO fdR fdI fdP : FuncData} (F : FunD K "add" "System.add" (defArgs sAdd) (defBody sAdd) (defScope sAdd) dvs kws f fd) (T : ClsF K C.S sysF) (TW : ClsF K C.W wsF)
    (GW : MO P w K mg base 5 C.S "set_at" ["self", "process", "set_number"] (spSetAt C) fW fdW) (GS : MO P w K mg base 5 C.S "source_at" ["self", "process", "number"] (spSourceAt C) fS fdS)
    (GL : DO P w K mg base 3 "is_label" ["x"] spIsLabel fL fdL) (GD : DO P w K mg base 1 "is_word" ["x"] spIsWord fD fdD) (GO : MO P w K mg base 1 C.W "label_of" ["self", "number", "source"] (spLabelOf C.W C.R) fO fdO)
    (gR : mg "Registration" = some (.ref C.R)) (MR : Mk K C.R fR) (GR : FnOk P w K mg base CX0 1 fR fdR ["self", "number", "source", "word", "armed"] (spRegInit C.R)) (bR : Binds K fdR ["self", "number", "source", "word", "armed"] [])
    (GI : MO P w K mg base 1 C.S "is_ready" ["self", "source"] (spIsReady C) fI fdI) (GP : MO P w K mg base 2 C.W "put" ["self", "label", "kept", "ready"] (spPut C.W) fP fdP) :
    FnOk P w K mg base CX0 6 f fd ["self", "process", "set_number", "number", "label", "word"] (spAdd C) := by
  refine F.ok scAdd (fun vs H Q E h => ?_) (fun cdv A outer s H vs Q E hr h => ?_)
  · obtain ⟨_, _, _, _, _, _, _, _, _, _, rfl, _⟩ := h
    rfl
  · obtain ⟨p, sn, n, l, s, t, wd, S, ad, dx, rfl, A0, Ms, hs, Mt, ht, l0, l1, hwd, hfind, hl, sm0, k⟩ := h
    have hu := hu_of hr
    have hr1 : Room 1 _ := hr.mono (by decide)
    have hr2 : Room 2 _ := hr.mono (by decide)
    have hr3 : Room 3 _ := hr.mono (by decide)
    refine ⟨_, pss_cons (ps_set (i := 6) scAdd.nd rfl (Or.inl rfl) (pe_meth (pv 0) T.cl GW.m GW.g hr GW.b .nil pass0 (pa_cons (pv 1) (pa_cons (pv 2) pa_nil))))
      (pss_cons (ps_set (i := 7) scAdd.nd rfl (Or.inl rfl) (pe_meth (pv 0) T.cl GS.m GS.g hr GS.b .nil pass0 (pa_cons (pv 1) (pa_cons (pv 3) pa_nil))))
      (pss_cons (ps_if (pt_not (pt_val (pe_call GL.g hr3 (by rfl) GL.m GL.k GL.b .nil pass0 (pa_cons (pv 4) pa_nil)))) (pss_one ps_never) pss_nil)
      (pss_cons (ps_if (pt_not (pt_val (pe_call GD.g hr1 (by rfl) GD.m GD.k GD.b .nil pass0 (pa_cons (pv 5) pa_nil)))) (pss_one ps_never) pss_nil)
      (pss_cons (ps_if (pt_cmpR oNotN (pe_meth (pv 6) TW.cl GO.m GO.g hr1 GO.b .nil pass0 (pa_cons (pv 3) (pa_cons (pv 7) pa_nil))) pe_non (nomark _)) (pss_one ps_never) pss_nil)
      (pss_cons (ps_if (pt_cmp (pc_din hu (pv 4) (pe_fld (pv 6) rfl)) rfl) (pss_one ps_never) pss_nil)
      (pss_one (ps_expr (pe_meth (pv 6) TW.cl GP.m GP.g hr2 GP.b .nil pass0 (pa_cons (pv 4) (pa_cons (pe_make MR GR hr2 (by rfl) gR bR .nil pass0 (pa_cons (pv 3) (pa_cons (pv 7) (pa_cons (pv 5) (pa_cons pe_bl pa_nil))))) (pa_cons (pe_meth (pv 0) T.cl GI.m GI.g hr1 GI.b .nil pass0 (pa_cons (pv 7) pa_nil)) pa_nil))))))))))), ?_⟩
    have hb := A0.at_ .box trivial
    walk_at "wn"
    refine ⟨_, rfl, ad .box, dx .box, _, rfl, hb, rfl, ?_⟩
    walk_at "wn"
    refine ⟨p, sn, s, S, ad, dx, rfl, A0, Ms, hs, ?_⟩
    walk_at "wn"
    refine ⟨_, rfl, ad .box, dx .box, _, rfl, hb, rfl, ?_⟩
    walk_at "wn"
    refine ⟨p, n, t, S, ad, dx, rfl, A0, Mt, ht, ?_⟩
    walk_at "wn"
    refine ⟨l, rfl, ?_⟩
    rw [decide_eq_true l0, decide_eq_true l1]
    refine ⟨_, rfl, ?_⟩
    walk_at "wn"
    refine ⟨_, rfl, wd, rfl, hwd, ?_⟩
    refine ⟨_, rfl, ?_⟩
    walk_at "wn"
    have hw := A0.at_ (.ws s) hs
    refine ⟨_, rfl, ad (.ws s), dx (.ws s), _, rfl, hw, rfl, ?_⟩
    walk_at "wn"
    refine ⟨ad (.ws s), dx (.ws s), ad (.ent s), ad (.que s), n, t, S.ents s, fun j => ad (.reg s j), S.reg s, rfl, hw, A0.at_ (.ent s) hs, fun j hj => ⟨dx (.reg s j), A0.at_ (.reg s j) ⟨hs, hj⟩⟩, fun H1 s1 => ?_⟩
    rw [hfind]
    have A1 := A0.same s1
    have hw1 := A1.at_ (.ws s) hs
    have he1 := A1.at_ (.ent s) hs
    have hq1 := A1.at_ (.que s) hs
    walk_at "wn"
    refine ⟨_, rfl, _, rfl, ad (.ws s), C.W, dx (.ws s), _, _, rfl, hw1, TW.cl, TW.no _ (by decide), rfl, ?_⟩
    refine ⟨ad (.ent s), _, rfl, DGet.k (k := Sum.inl l) he1, ?_⟩
    rw [ent_val, if_neg hl]
    refine ⟨_, rfl, ?_⟩
    show if false = true then _ else _
    walk_at "wn"
    refine ⟨_, rfl, ad (.ws s), dx (.ws s), _, rfl, hw1, rfl, ?_⟩
    walk_at "wn"
    refine ⟨_, rfl, _, rfl, _, rfl, fun x dx2 hx hdx ndx => ?_⟩
    refine ⟨x, dx2, n, t, wd, true, rfl, upd_same, fun H2 k1 k2 => ⟨rfl, ?_⟩⟩
    have s2 : Same H1 H2 := fun b o e => by
      rw [k1 b (ne_of_none e hx), upd_ne (ne_of_none e hx), upd_ne (ne_of_none e hdx)]
      exact e
    have A2 := A1.same s2
    refine ⟨_, rfl, ad .box, dx .box, _, rfl, A2.at_ .box trivial, rfl, ?_⟩
    walk_at "wn"
    refine ⟨t, S, ad, dx, rfl, A2, ht, ?_⟩
    have he2 := A2.at_ (.ent s) hs
    have hq2 := A2.at_ (.que s) hs
    have z1 := sm0.que s hs
    have z2 := sm0.ents s hs
    refine ⟨ad (.ws s), dx (.ws s), ad (.ent s), ad (.que s), x, l, ready S t, S.que s, _, rfl, A2.at_ (.ws s) hs, hq2, he2, by omega, by unfold entKV; rw [List.length_map]; omega, fun H3 j1 j2 j3 => ?_⟩
    rw [ent_put, if_neg hl, reg_fun] at j1
    have nxe : x ≠ ad (.ent s) := fun z => by rw [z, he1] at hx; cases hx
    have nxq : x ≠ ad (.que s) := fun z => by rw [z, hq1] at hx; cases hx
    have fresh : H x = none := s1.free hx
    refine (fun z : At C _ _ _ _ ∧ Step H S ad _ _ _ => k H3 (setA ad (.reg s l) x) (setA dx (.reg s l) dx2) z.1 z.2) ?_
    refine At.re3 [.ent s, .que s, .reg s l] A0 (fun c lc => ?_) (fun c hc lc => ?_) (fun c hc lc => ?_) (fun c hc lc => ?_) (fun c hc c' hc' lc lc' z e => ?_) (fun b o nb e => ?_) (setA_ne (by intro z; cases z))
    · cases c with
      | reg s' l' =>
        obtain ⟨h1, h2⟩ := lc
        by_cases e : s' = s
        · subst e
          have h2 : l' ∈ (if s' = s' then S.ents s' ++ [l] else S.ents s') := h2
          rw [if_pos rfl] at h2
          rcases List.mem_append.mp h2 with y | y
          · exact .inr ⟨h1, y⟩
          · rw [List.mem_singleton.mp y]
            exact .inl (by simp)
        · have h2 : l' ∈ (if s' = s then S.ents s ++ [l] else S.ents s') := h2
          rw [if_neg e] at h2
          exact .inr ⟨h1, h2⟩
      | _ => exact .inr lc
    · simp only [List.mem_cons, List.not_mem_nil, or_false] at hc
      rcases hc with rfl | rfl | rfl
      · rw [setA_ne (by intro z; cases z), j1]
        show _ = some (HO.dK (entKV (if s = s then S.ents s ++ [l] else S.ents s) _))
        rw [if_pos rfl]
      · rw [setA_ne (by intro z; cases z), j2]
        show _ = some (HO.lst ((if s = s then _ else S.que s).map V.int))
        rw [if_pos rfl]
      · rw [setA_same, j3 x nxe nxq, k2]
        show _ = some (regO C.R (setA dx (.reg s l) dx2 (.reg s l)) (if s = s ∧ l = l then (⟨n, t, wd, true⟩ : Reg) else S.reg s l).num (if s = s ∧ l = l then (⟨n, t, wd, true⟩ : Reg) else S.reg s l).src (if s = s ∧ l = l then (⟨n, t, wd, true⟩ : Reg) else S.reg s l).word (if s = s ∧ l = l then (⟨n, t, wd, true⟩ : Reg) else S.reg s l).armed)
        rw [if_pos ⟨rfl, rfl⟩, setA_same]
    · have n1 : c ≠ .ent s := fun z => hc (by rw [z]; simp)
      have n2 : c ≠ .que s := fun z => hc (by rw [z]; simp)
      have n3 : c ≠ .reg s l := fun z => hc (by rw [z]; simp)
      refine ⟨setA_ne n3, ?_⟩
      cases c with
      | ent s' =>
        have ns : s' ≠ s := fun z => n1 (by rw [z])
        show HO.dK (entKV (if s' = s then S.ents s ++ [l] else S.ents s') fun j => setA ad (.reg s l) x (.reg s' j)) = _
        rw [if_neg ns]
        have ef : (fun j => setA ad (.reg s l) x (.reg s' j)) = fun j => ad (.reg s' j) := funext fun j => setA_ne fun z => ns (by cases z; rfl)
        rw [ef]
        rfl
      | que s' =>
        have ns : s' ≠ s := fun z => n2 (by rw [z])
        show HO.lst ((if s' = s then _ else S.que s').map V.int) = _
        rw [if_neg ns]
        rfl
      | reg s' l' =>
        have nr : ¬ (s' = s ∧ l' = l) := fun z => n3 (by rw [z.1, z.2])
        show regO C.R (setA dx (.reg s l) dx2 (.reg s' l')) (if s' = s ∧ l' = l then (⟨n, t, wd, true⟩ : Reg) else S.reg s' l').num (if s' = s ∧ l' = l then (⟨n, t, wd, true⟩ : Reg) else S.reg s' l').src (if s' = s ∧ l' = l then (⟨n, t, wd, true⟩ : Reg) else S.reg s' l').word (if s' = s ∧ l' = l then (⟨n, t, wd, true⟩ : Reg) else S.reg s' l').armed = _
        rw [if_neg nr, setA_ne n3]
        rfl
      | _ => rfl
    · simp only [List.mem_cons, List.not_mem_nil, or_false] at hc
      rcases hc with rfl | rfl | rfl
      · exact .inl ⟨setA_ne (by intro z; cases z), hs⟩
      · exact .inl ⟨setA_ne (by intro z; cases z), hs⟩
      · exact .inr (by rw [setA_same]; exact fresh)
    · have of : ∀ c, c ∈ ([.ent s, .que s, .reg s l] : List Cell) → H (setA ad (.reg s l) x c) = none → c = .reg s l := fun c hc z => by
        simp only [List.mem_cons, List.not_mem_nil, or_false] at hc
        rcases hc with rfl | rfl | rfl
        · rw [setA_ne (by intro z; cases z), A0.at_ (.ent s) hs] at z
          cases z
        · rw [setA_ne (by intro z; cases z), A0.at_ (.que s) hs] at z
          cases z
        · rfl
      rw [of c hc z, of c' hc' (by rw [← e]; exact z)]
    · rw [j3 b (nb (.ent s) (by simp) hs) (nb (.que s) (by simp) hs)]
      exact s2 _ _ (s1 _ _ e)
end

def took (S : Sys) (s most : Int) : TSt := takeAll S.unit most (S.que s) ⟨[], S.que s, S.reg s⟩
def waited (S : Sys) (s most : Int) : Sys := { S with
  que := fun j => if j = s then (took S s most).que else S.que j
  reg := fun j => if j = s then (took S s most).reg else S.reg j }
section
variable {P : Program} {w : World} {K : PySem.W.Frag} {mg : Str → Option Value} {base : Heap} {C : Cs}
def spWait (C : Cs) : Sp := fun vs H Q _ => ∃ (p sn s most : Int), OnSys C vs H [.int p, .int sn, .int most] fun S ad dx => Means S p sn s ∧ s ∈ S.sets ∧ 1 ≤ most ∧ most ≤ 1000000 ∧ (∀ l ∈ S.que s, l ∈ S.ents s) ∧ (∀ l ∈ S.ents s, (S.reg s l).src ∈ S.srcs) ∧ C.W ≠ C.R ∧ Small S ∧
  ∀ H' ad' dx' r rs, H r = none → H' r = some (.lst rs) → ¬ own (waited S s most) ad' r → Paired (RepAt H') rs (took S s most).reps → At C H' (waited S s most) ad' dx' → Step H S ad H' (waited S s most) ad' → Q (.ref r) H'
def setW (ad : Cell → Addr) (s : Int) (q : Addr) (r : Int → Addr) : Cell → Addr
  | .que j => if j = s then q else ad (.que j)
  | .reg j l => if j = s then r l else ad (.reg j l)
  | c => ad c
end

/-! o.m(e, .., k = v, ..) -/
def tMethK (C : Addr) (m : Str) (n j : Nat) (sp : Sp) (gV : List V → List V → List V) (E : XK) (ta : TE) (t tk : TA) : TE := fun σ H Q => ta σ H fun x H1 => ∃ a dx fs, x = .ref a ∧ H1 a = some (.ins C dx fs) ∧ fs.lookup m = none ∧ t σ H1 fun vs H2 => tk σ H2 fun zs H3 => vs.length = n ∧ zs.length = j ∧ sp (gV (x :: vs) zs) H3 Q E
section
variable {X : Cx} {CX : CXT} {k n : Nat} {f C : Addr} {fd : FuncData} {ps ks : List Str} {sp : Sp} {E : XK} {m : Str} {apos pos : Pos} {o e : Expr} {es : List Expr} {kws : List Keyword} {ta : TE} {t tk : TA} {g : List Value → List Value → List Value} {gV : List V → List V → List V}
theorem pe_methK {pl : Sem Bool} (he : PE X o ta) (c : Cls X.K C) (hm : Meth X.K C m f) (F : FnOk X.prog X.w X.K X.mg X.base CX k f fd ps sp) (hr : Room k X.A) (hb : KBn X.K fd ps (n + 1) ks g gV) (hx : Passes CX X E) (ha : PA X (e :: es) t) (hkw : PK X kws tk)
    (hall : (backToKw pos (keywordEach kws X.env)).all (·.1.isSome) = true := by rfl) (hks : (backToKw pos (keywordEach kws X.env)).filterMap (·.1) = ks := by rfl)
    (hst : starEach (e :: es) X.env = (false, eval e X.env) :: starEach es X.env := by rfl) (hpl : ((backTo pos (starEach (e :: es) X.env)).any (·.1) || (backToKw pos (keywordEach kws X.env)).any (·.1.isNone)) = false := by rfl)
    (ht : eval (.Call (.Attribute o m apos) (e :: es) kws pos) X.env = (do
      let ov ← eval o X.env
      standAt apos.atName
      let (f, first) ← holding [ov] (getMethod ov m pl)
      callWith pos f first (backTo pos (starEach (e :: es) X.env)) (backToKw pos (keywordEach kws X.env))) := by rfl) :
    PE X (.Call (.Attribute o m apos) (e :: es) kws pos) (tMethK C m n ks.length sp gV E ta t tk) := by
  refine ⟨fun pins s σ H Q I h => ?_⟩
  refine PySem.W.methodCall_KW (pl := pl) (thn (he.run pins s σ H _ I h) fun u s1 ⟨x, H1, I1, rx, a, dx, fs, ex, ea, l, q⟩ => ?_) ht
  subst ex
  obtain rfl : u = Value.ref a := rx
  refine getmeth_ok I1 ea c hm l ?_
  refine PySem.W.callWith_KW (first := [.ref a]) (h₀ := X.base) I.ok.mod.kin hm.kp hall (thn (ha.run pos pins s1 σ H1 _ I1 q) fun us s2 ⟨vs, H2, I2, r, q2⟩ => ?_) hpl hst
  refine thn (hkw.run pos pins s2 σ H2 _ I2 q2) fun ws s3 ⟨zs, H3, I3, rz, l1, l2, q3⟩ => ⟨I3.kIn, ?_⟩
  rw [hks]
  exact run_fnN (us := .ref a :: us) (vs := .ref a :: vs) F hr hb hx I3 (.cons rfl r) rz (by rw [List.length_cons, l1]) l2 q3
end
/-! WaitingSet.drop -/
theorem ent_drop (ls : List Int) (ad : Int → Addr) (l : Int) : dropK (entKV ls ad) (Sum.inl l) = entKV (ls.filter fun x => decide (x ≠ l)) ad := by
  unfold dropK entKV
  induction ls with
  | nil => rfl
  | cons x ls ih =>
    rw [List.map_cons, List.filter_cons, List.filter_cons, ih]
    by_cases h : x = l
    · have e1 : decide ((Sum.inl x : Key) ≠ Sum.inl l) = false := decide_eq_false fun z => z (by rw [h])
      have e2 : decide (x ≠ l) = false := decide_eq_false fun z => z h
      rw [e2]
      show (if decide ((Sum.inl x : Key) ≠ Sum.inl l) = true then _ else _) = _
      rw [e1]
      rfl
    · have e1 : decide ((Sum.inl x : Key) ≠ Sum.inl l) = true := decide_eq_true fun z => h (Sum.inl.inj z)
      have e2 : decide (x ≠ l) = true := decide_eq_true h
      rw [e2]
      show (if decide ((Sum.inl x : Key) ≠ Sum.inl l) = true then _ else _) = _
      rw [e1]
      rfl
section
variable {P : Program} {w : World} {K : PySem.W.Frag} {mg : Str → Option Value} {base : Heap} {CR CW : Addr}
def without (l : Int) (ls : List Int) : List Int := ls.filter fun x => decide (x ≠ l)
def spDrop (CW : Addr) : Sp := fun vs H Q _ => ∃ (a dx e q : Addr) (l : Int) (qs ls : List Int) (ad : Int → Addr), vs = [.ref a, .int l] ∧ H a = some (wsO CW dx e q) ∧ H q = some (.lst (qs.map V.int)) ∧ H e = some (.dK (entKV ls ad)) ∧ l ∈ ls ∧ qs.length ≤ 10000 ∧
  ∀ H' q', H q' = none → H' a = some (wsO CW dx e q') → H' q' = some (.lst ((without l qs).map V.int)) → H' e = some (.dK (entKV (without l ls) ad)) → (∀ b o, b ≠ a → b ≠ e → H b = some o → H' b = some o) → Q .non H'
theorem scDrop : FnScope ["self", "label", "pending"] ["self", "label"] (defScope sDrop) := ⟨rfl, rfl, rfl, by decide +kernel, rfl, by decide +kernel, by decide +kernel⟩
theorem okDrop {f : Addr} {fd : FuncData} (F : Fun K "drop" "WaitingSet.drop" sDrop f fd) (T : ClsF K CW wsF) : FnOk P w K mg base CX0 1 f fd ["self", "label"] (spDrop CW) := by
  refine F.ok scDrop (fun vs H Q E h => ?_) (fun cdv A outer s H vs Q E hr h => ?_)
  · obtain ⟨_, _, _, _, _, _, _, _, rfl, _⟩ := h
    rfl
  · obtain ⟨a, dx, e, q, l, qs, ls, ad, rfl, ha, hq, he, hl, hz, k⟩ := h
    have hu := hu_of hr
    refine ⟨_, pss_cons (ps_ddel (pe_fld (pv 0) rfl) (pv 1))
      (pss_one (ps_fld (pv 0) (pe_lc (own := [("pending", 2)]) (g := gName 2) (tt := tTest (tOp rNe (tVar 2) (tVar 1))) (te := tVar 2) rfl scDrop.nd (pi_list (pe_fld (pv 0) rfl)) (blkOk_by (N := ["self", "label", "pending"]) (sc := defScope sDrop) (by decide +kernel)) (fun _ _ _ _ _ => pg_name (i := 2) scDrop.nd rfl (Or.inl rfl)) (fun _ _ _ _ _ => pts_one (pt_cmpR op_ne (pv 2) (pv 1) (nomark _))) (fun _ _ _ _ _ => pv 2)) rfl)), ?_⟩
    have nae : a ≠ e := ne_of ha he (by intro z; cases z)
    have nqe : q ≠ e := ne_of hq he (by intro z; cases z)
    refine ⟨_, rfl, a, CW, dx, _, _, rfl, ha, T.cl, T.no _ (by decide), rfl, ?_⟩
    refine ⟨_, rfl, e, _, Sum.inl l, rfl, he, rfl, by rw [ent_val, if_pos hl]; rfl, ?_⟩
    rw [ent_drop]
    have g1 : ∀ b o, b ≠ e → H b = some o → upd H e (.dK (entKV (ls.filter fun x => decide (x ≠ l)) ad)) b = some o := fun b o n z => by rw [upd_ne n]; exact z
    have e1 : upd H e (.dK (entKV (ls.filter fun x => decide (x ≠ l)) ad)) e = some (.dK (entKV (without l ls) ad)) := upd_same
    generalize upd H e (.dK (entKV (ls.filter fun x => decide (x ≠ l)) ad)) = H1 at g1 e1
    have a1 := g1 _ _ nae ha
    have q1 := g1 _ _ nqe hq
    refine ⟨_, rfl, a, CW, dx, _, _, rfl, a1, T.cl, T.no _ (by decide), rfl, ?_⟩
    refine ⟨q, rfl, ⟨_, SqL.of q1⟩, fun D hD => lc_list (K := K) (a := q) (xs := qs.map V.int) (fun i H' => Same H1 H' ∧ H' D = some (.lst ((without l (qs.take i)).map V.int))) ⟨Same.new' hD, by rw [upd_same]; rfl⟩ (fun i H' _ h => SqL.of (h.1 _ _ q1)) ?_ ?_⟩
    · rintro i v H' hv ⟨sm, hD'⟩
      rw [List.getElem?_map] at hv
      cases el : qs[i]? with
      | none => rw [el] at hv; cases hv
      | some x =>
      rw [el] at hv
      cases hv
      obtain ⟨hi, _⟩ := List.getElem?_eq_some_iff.mp el
      have et : without l (qs.take (i + 1)) = without l (qs.take i) ++ (if x ≠ l then [x] else []) := by
        unfold without
        rw [List.take_add_one, el, List.filter_append]
        by_cases h : x = l
        · rw [if_neg (fun z => z h)]
          simp [h]
        · rw [if_pos h]
          simp [h]
      refine ⟨rfl, ?_⟩
      show tTest _ _ _ _
      walk_at "wn"
      by_cases h : x = l
      · subst h
        rw [et, if_neg (show ¬ (x ≠ x) from fun z => z rfl), List.append_nil]
        walk_at "wn"
        exact ⟨sm, hD'⟩
      · rw [decide_eq_false fun z => h (V.int.inj z), et, if_pos h, List.map_append]
        walk_at "wn"
        refine ⟨_, hD', ?_, fun b o z => ?_, upd_same⟩
        · rw [List.length_map]
          have : (without l (qs.take i)).length ≤ (qs.take i).length := List.length_filter_le _ _
          rw [List.length_take] at this
          rw [sizeLine_eq]
          omega
        · rw [upd_ne (ne_of_none z hD)]
          exact sm _ _ z
    · rintro H' ⟨sm, hD'⟩
      have hD0 : H D = none := by
        cases z : H D with
        | none => rfl
        | some o =>
          by_cases n : D = e
          · rw [n, e1] at hD
            cases hD
          · rw [g1 _ _ n z] at hD
            cases hD
      have eq : without l (qs.take (qs.map V.int).length) = without l qs := by rw [List.length_map, List.take_length]
      rw [eq] at hD'
      refine ⟨_, rfl, a, CW, dx, _, rfl, sm _ _ a1, T.cl, T.no _ (by decide), by show 2 < 1000; decide, ?_⟩
      have naD : a ≠ D := ne_of_none a1 hD
      have neD : e ≠ D := ne_of_none e1 hD
      refine k _ D hD0 upd_same ((upd_ne (Ne.symm naD)).trans hD') ((upd_ne (Ne.symm nae)).trans (sm _ _ e1)) fun b o n1 n2 z => ?_
      rw [upd_ne n1]
      exact sm _ _ (g1 _ _ n2 z)
end
/-! System.change, System.remove -/
def changed (S : Sys) (s l : Int) (r : Reg) : Sys := { S with
  reg := fun j i => if j = s ∧ i = l then r else S.reg j i
  que := fun j => if j = s then (if ready S r.src = true then qAdd l (S.que s) else S.que s) else S.que j }
def dropped (S : Sys) (s l : Int) : Sys := { S with
  ents := fun j => if j = s then without l (S.ents s) else S.ents j
  que := fun j => if j = s then without l (S.que s) else S.que j }
section
variable {P : Program} {w : World} {K : PySem.W.Frag} {mg : Str → Option Value} {base : Heap} {C : Cs}
def spChange (C : Cs) : Sp := fun vs H Q _ => ∃ (p sn n l s t : Int) (wd : Str), OnSys C vs H [.int p, .int sn, .int n, .str wd] fun S ad dx => Means S p sn s ∧ s ∈ S.sets ∧ Means S p n t ∧ t ∈ S.srcs ∧ wd ∈ wordsL ∧ (S.ents s).find? (keyOf (S.reg s) n t) = some l ∧ Small S ∧
  ∀ H' ad' dx', At C H' (changed S s l ⟨n, t, wd, true⟩) ad' dx' → Step H S ad H' (changed S s l ⟨n, t, wd, true⟩) ad' → Q .non H'
def spRemove (C : Cs) : Sp := fun vs H Q _ => ∃ (p sn n l s t : Int), OnSys C vs H [.int p, .int sn, .int n] fun S ad dx => Means S p sn s ∧ s ∈ S.sets ∧ Means S p n t ∧ t ∈ S.srcs ∧ (S.ents s).find? (keyOf (S.reg s) n t) = some l ∧ Small S ∧
  ∀ H' ad' dx', At C H' (dropped S s l) ad' dx' → Step H S ad H' (dropped S s l) ad' → Q .non H'
end

def newSource (S : Sys) (p : Int) (n : Nat) : Sys := { newThing S p n with
  srcs := S.srcs ++ [S.next]
  unit := fun j => if j = S.next then (0, false) else S.unit j }
def newSet (S : Sys) (p : Int) (n : Nat) : Sys := { newThing S p n with
  sets := S.sets ++ [S.next]
  ents := fun j => if j = S.next then [] else S.ents j
  que := fun j => if j = S.next then [] else S.que j }
section
variable {P : Program} {w : World} {K : PySem.W.Frag} {mg : Str → Option Value} {base : Heap} {C : Cs}
def spNewSource (C : Cs) : Sp := fun vs H Q _ => ∃ (p : Int) (n : Nat), OnSys C vs H [.int p] fun S ad dx => p ∈ S.procs ∧ firstFree (S.tab p) n ∧ (S.tab p).length ≤ 1000 ∧ S.srcs.length ≤ 1000 ∧ S.next ∉ S.srcs ∧
  ∀ H' ad', At C H' (newSource S p n) ad' dx → Step H S ad H' (newSource S p n) ad' → Q (.int (n : Int)) H'
theorem scNewSource : FnScope ["self", "process", "number", "thing"] ["self", "process"] (defScope sNewSource) := ⟨rfl, rfl, rfl, by decide +kernel, rfl, by decide +kernel, by decide +kernel⟩
def spNewSet (C : Cs) : Sp := fun vs H Q _ => ∃ (p : Int) (n : Nat), OnSys C vs H [.int p] fun S ad dx => p ∈ S.procs ∧ firstFree (S.tab p) n ∧ (S.tab p).length ≤ 1000 ∧ S.sets.length ≤ 1000 ∧ S.next ∉ S.sets ∧
  ∀ H' ad' dx', At C H' (newSet S p n) ad' dx' → Step H S ad H' (newSet S p n) ad' → Q (.int (n : Int)) H'
theorem scNewSet : FnScope ["self", "process", "number", "thing"] ["self", "process"] (defScope sNewSet) := ⟨rfl, rfl, rfl, by decide +kernel, rfl, by decide +kernel, by decide +kernel⟩
end

def newSys (P N : Int) : Sys where
  P := P
  N := N
  next := 0
  procs := [0]
  tab := fun _ => List.replicate N.toNat none
  srcs := []
  unit := fun _ => (0, false)
  sets := []
  ents := fun _ => []
  reg := fun _ _ => ⟨0, 0, "level", true⟩
  que := fun _ => []
section
variable {P : Program} {w : World} {K : PySem.W.Frag} {mg : Str → Option Value} {base : Heap} {C : Cs}
structure LimTxt (K : PySem.W.Frag) (mg : Str → Option Value) (CS : Addr) : Prop where
  lp : ∃ t, mg "LEAST_PROCESSES" = some (.int 2 t)
  ln : ∃ t, mg "LEAST_NUMBERS" = some (.int 3 t)
  mp : ∃ u, Con K CS "MOST_PROCESSES" (.int 6) u
  mn : ∃ u, Con K CS "MOST_NUMBERS" (.int 8) u
def spSysInit (C : Cs) : Sp := fun vs H Q _ => ∃ (x dx0 : Addr) (p n : Int), vs = [.ref x, .int p, .int n] ∧ H x = some (.ins C.S dx0 []) ∧ 2 ≤ p ∧ p ≤ 6 ∧ 3 ≤ n ∧ n ≤ 8 ∧
  ∀ H' ad dx, ad .box = x → At C H' (newSys p n) ad dx → (∀ b o, b ≠ x → H b = some o → H' b = some o) → (∀ b, own (newSys p n) ad b → b = x ∨ H b = none) → Q .non H'
theorem scSysInit : FnScope ["self", "processes", "numbers"] ["self", "processes", "numbers"] (defScope sSysInit) := ⟨rfl, rfl, rfl, by decide +kernel, rfl, by decide +kernel, by decide +kernel⟩
def initA (x td sd ud tl : Addr) : Cell → Addr
  | .box => x
  | .tabD => td
  | .srcD => sd
  | .setD => ud
  | _ => tl
theorem okSysInit {dvs : List V} {kws : List (Str × V)} {f fB : Addr} {fd fdB : FuncData} (F : FunD K "__init__" "System.__init__" (defArgs sSysInit) (defBody sSysInit) (defScope sSysInit) dvs kws f fd) (T : ClsF K C.S sysF) (L : LimTxt K mg C.S)
    (GB : DO P w K mg base 2 "is_between" ["x", "least", "most"] spIsBetween fB fdB) : FnOk P w K mg base CX0 3 f fd ["self", "processes", "numbers"] (spSysInit C) := by
  refine F.ok scSysInit (fun vs H Q E h => ?_) (fun cdv A outer s H vs Q E hr h => ?_)
  · obtain ⟨_, _, _, _, rfl, _⟩ := h
    rfl
  · obtain ⟨x, dx0, p, n, rfl, hx, p0, p1, n0, n1, k⟩ := h
    obtain ⟨tp, lp⟩ := L.lp
    obtain ⟨tn, ln⟩ := L.ln
    obtain ⟨up, mp⟩ := L.mp
    obtain ⟨un, mn⟩ := L.mn
    refine ⟨_, pss_cons (ps_if (pt_not (pt_val (pe_call GB.g hr (by rfl) GB.m GB.k GB.b .nil pass0 (pa_cons (pv 1) (pa_cons (pe_glob (v := .int 2) (by rfl) lp ⟨_, rfl⟩) (pa_cons (pe_con (pv 0) rfl) pa_nil)))))) (pss_one ps_never) pss_nil)
      (pss_cons (ps_if (pt_not (pt_val (pe_call GB.g hr (by rfl) GB.m GB.k GB.b .nil pass0 (pa_cons (pv 2) (pa_cons (pe_glob (v := .int 3) (by rfl) ln ⟨_, rfl⟩) (pa_cons (pe_con (pv 0) rfl) pa_nil)))))) (pss_one ps_never) pss_nil)
      (pss_cons (ps_fld (pv 0) (pv 1) rfl) (pss_cons (ps_fld (pv 0) (pv 2) rfl)
      (pss_cons (ps_fld (pv 0) (pe_disp (pps_cons pe_int (pe_op op_rep (pe_lst (pa_cons pe_non pa_nil)) (pv 2)) pps_nil) (by rfl) (by rfl) (fun z => by cases z) (by decide)) rfl)
      (pss_cons (ps_fld (pv 0) pe_dnewK rfl) (pss_cons (ps_fld (pv 0) pe_dnewK rfl) (pss_one (ps_fld (pv 0) pe_int rfl)))))))), ?_⟩
    walk_at "wn"
    refine ⟨_, rfl, x, C.S, dx0, _, _, _, rfl, hx, T.cl, mp, rfl, ?_⟩
    refine ⟨p, 2, 6, rfl, ?_⟩
    rw [decide_eq_true p0, decide_eq_true p1]
    refine ⟨_, rfl, ?_⟩
    walk_at "wn"
    refine ⟨_, rfl, _, rfl, x, C.S, dx0, _, _, _, rfl, hx, T.cl, mn, rfl, ?_⟩
    refine ⟨n, 3, 8, rfl, ?_⟩
    rw [decide_eq_true n0, decide_eq_true n1]
    refine ⟨_, rfl, ?_⟩
    refine ⟨_, rfl, _, rfl, x, C.S, dx0, _, rfl, hx, T.cl, T.no _ (by decide), by show 0 < 1000; decide, ?_⟩
    refine ⟨_, rfl, _, rfl, x, C.S, dx0, _, rfl, upd_same, T.cl, T.no _ (by decide), by show 1 < 1000; decide, ?_⟩
    have g1 : ∀ b o, b ≠ x → H b = some o → upd (upd H x (.ins C.S dx0 (putF "process_limit" (V.int p) []))) x (.ins C.S dx0 (putF "number_limit" (V.int n) (putF "process_limit" (V.int p) []))) b = some o := fun b o nb e => by rw [upd_ne nb, upd_ne nb]; exact e
    have x1 : upd (upd H x (.ins C.S dx0 (putF "process_limit" (V.int p) []))) x (.ins C.S dx0 (putF "number_limit" (V.int n) (putF "process_limit" (V.int p) []))) x = some (.ins C.S dx0 [("process_limit", .int p), ("number_limit", .int n)]) := upd_same
    generalize upd (upd H x (.ins C.S dx0 (putF "process_limit" (V.int p) []))) x (.ins C.S dx0 (putF "number_limit" (V.int n) (putF "process_limit" (V.int p) []))) = H1 at g1 x1
    have fr : ∀ {H' : Hp} {l : Addr}, (∀ b o, b ≠ x → H b = some o → H' b = some o) → H' l = none → l ≠ x → H l = none := fun {H'} {l} g e nl => by
      cases z : H l with
      | none => rfl
      | some o => rw [g l o nl z] at e; cases e
    intro td htd
    have ntx : td ≠ x := fun z => by rw [z, x1] at htd; cases htd
    have s2 := Same.new' (o := .dK []) htd
    refine ⟨by show 1 ≤ sizeLine; decide, fun l0 hl0 => ?_⟩
    have s3 := Same.new' (o := .lst [V.non]) hl0
    have l0' : upd (upd H1 td (.dK [])) l0 (.lst [V.non]) l0 = some (.lst [V.non]) := upd_same
    refine ⟨_, rfl, l0, n, _, rfl, rfl, l0', by omega, by omega, ?_, fun tl htl => ?_⟩
    · show 1 * n.toNat ≤ sizeLine
      rw [sizeLine_eq]
      omega
    have s4 := Same.new' (o := .lst (List.replicate n.toNat [V.non]).flatten) htl
    have td4 : upd (upd (upd H1 td (.dK [])) l0 (.lst [V.non])) tl (.lst (List.replicate n.toNat [V.non]).flatten) td = some (.dK []) := s4 _ _ (s3 _ _ upd_same)
    have x4 := s4 _ _ (s3 _ _ (s2 _ _ x1))
    have tl4 : upd (upd (upd H1 td (.dK [])) l0 (.lst [V.non])) tl (.lst (List.replicate n.toNat [V.non]).flatten) tl = some (.lst (List.replicate n.toNat [V.non]).flatten) := upd_same
    have g4 : ∀ b o, b ≠ x → H b = some o → upd (upd (upd H1 td (.dK [])) l0 (.lst [V.non])) tl (.lst (List.replicate n.toNat [V.non]).flatten) b = some o := fun b o nb e => s4 _ _ (s3 _ _ (s2 _ _ (g1 b o nb e)))
    have hd0 : H td = none := fr g1 htd ntx
    have ntlx : tl ≠ x := fun z => by rw [z] at htl; rw [s3 _ _ (s2 _ _ x1)] at htl; cases htl
    have htl0 : H tl = none := fr (H' := upd (upd H1 td (.dK [])) l0 (.lst [V.non])) (fun b o nb e => s3 _ _ (s2 _ _ (g1 b o nb e))) htl ntlx
    generalize upd (upd (upd H1 td (.dK [])) l0 (.lst [V.non])) tl (.lst (List.replicate n.toNat [V.non]).flatten) = H4 at td4 x4 tl4 g4
    have ntd : tl ≠ td := ne_of tl4 td4 (by intro z; cases z)
    refine ⟨td4, [(Sum.inl 0, .ref tl)], rfl, by show 1 ≤ 15; decide, ?_⟩
    have g5 : ∀ b o, b ≠ x → H b = some o → upd H4 td (.dK (mergeK [] [((Sum.inl 0 : Key), V.ref tl)])) b = some o := fun b o nb e => by rw [upd_ne (ne_of_none e hd0)]; exact g4 b o nb e
    have x5 : upd H4 td (.dK (mergeK [] [((Sum.inl 0 : Key), V.ref tl)])) x = _ := (upd_ne (Ne.symm ntx)).trans x4
    have tl5 : upd H4 td (.dK (mergeK [] [((Sum.inl 0 : Key), V.ref tl)])) tl = _ := (upd_ne ntd).trans tl4
    have td5 : upd H4 td (.dK (mergeK [] [((Sum.inl 0 : Key), V.ref tl)])) td = some (.dK [((Sum.inl 0 : Key), V.ref tl)]) := upd_same
    generalize upd H4 td (.dK (mergeK [] [((Sum.inl 0 : Key), V.ref tl)])) = H5 at g5 x5 tl5 td5
    refine ⟨_, rfl, x, C.S, dx0, _, rfl, x5, T.cl, T.no _ (by decide), by show 2 < 1000; decide, ?_⟩
    have g6 : ∀ b o, b ≠ x → H5 b = some o → upd H5 x (.ins C.S dx0 (putF "tables" (V.ref td) [("process_limit", .int p), ("number_limit", .int n)])) b = some o := fun b o nb e => by rw [upd_ne nb]; exact e
    have x6 : upd H5 x (.ins C.S dx0 (putF "tables" (V.ref td) [("process_limit", .int p), ("number_limit", .int n)])) x = some (.ins C.S dx0 [("process_limit", .int p), ("number_limit", .int n), ("tables", .ref td)]) := upd_same
    generalize upd H5 x (.ins C.S dx0 (putF "tables" (V.ref td) [("process_limit", .int p), ("number_limit", .int n)])) = H6 at g6 x6
    intro sd hsd
    have nsx : sd ≠ x := fun z => by rw [z, x6] at hsd; cases hsd
    have nst : sd ≠ td := fun z => by rw [z, g6 _ _ ntx td5] at hsd; cases hsd
    have hsd0 : H sd = none := fr (fun b o nb e => g6 b o nb (g5 b o nb e)) hsd nsx
    have s7 := Same.new' (o := .dK []) hsd
    refine ⟨_, rfl, x, C.S, dx0, _, rfl, s7 _ _ x6, T.cl, T.no _ (by decide), by show 3 < 1000; decide, ?_⟩
    have g8 : ∀ b o, b ≠ x → H6 b = some o → upd (upd H6 sd (.dK [])) x (.ins C.S dx0 (putF "sources" (V.ref sd) [("process_limit", .int p), ("number_limit", .int n), ("tables", .ref td)])) b = some o := fun b o nb e => by rw [upd_ne nb]; exact s7 _ _ e
    have sd8 : upd (upd H6 sd (.dK [])) x (.ins C.S dx0 (putF "sources" (V.ref sd) [("process_limit", .int p), ("number_limit", .int n), ("tables", .ref td)])) sd = some (.dK []) := by rw [upd_ne nsx]; exact upd_same
    have x8 : upd (upd H6 sd (.dK [])) x (.ins C.S dx0 (putF "sources" (V.ref sd) [("process_limit", .int p), ("number_limit", .int n), ("tables", .ref td)])) x = some (.ins C.S dx0 [("process_limit", .int p), ("number_limit", .int n), ("tables", .ref td), ("sources", .ref sd)]) := upd_same
    generalize upd (upd H6 sd (.dK [])) x (.ins C.S dx0 (putF "sources" (V.ref sd) [("process_limit", .int p), ("number_limit", .int n), ("tables", .ref td)])) = H8 at g8 sd8 x8
    intro ud hud
    have nux : ud ≠ x := fun z => by rw [z, x8] at hud; cases hud
    have nut : ud ≠ td := fun z => by rw [z, g8 _ _ ntx (g6 _ _ ntx td5)] at hud; cases hud
    have nus : ud ≠ sd := fun z => by rw [z, sd8] at hud; cases hud
    have hud0 : H ud = none := fr (fun b o nb e => g8 b o nb (g6 b o nb (g5 b o nb e))) hud nux
    have s9 := Same.new' (o := .dK []) hud
    refine ⟨_, rfl, x, C.S, dx0, _, rfl, s9 _ _ x8, T.cl, T.no _ (by decide), by show 4 < 1000; decide, ?_⟩
    refine ⟨_, rfl, x, C.S, dx0, _, rfl, upd_same, T.cl, T.no _ (by decide), by show 5 < 1000; decide, ?_⟩
    have fin : ∀ b o, b ≠ x → upd H8 ud (.dK []) b = some o → upd (upd (upd H8 ud (.dK [])) x (.ins C.S dx0 (putF "sets" (V.ref ud) [("process_limit", .int p), ("number_limit", .int n), ("tables", .ref td), ("sources", .ref sd)]))) x (.ins C.S dx0 (putF "next_thing" (V.int 0) (putF "sets" (V.ref ud) [("process_limit", .int p), ("number_limit", .int n), ("tables", .ref td), ("sources", .ref sd)]))) b = some o := fun b o nb e => by rw [upd_ne nb, upd_ne nb]; exact e
    have xf : upd (upd (upd H8 ud (.dK [])) x (.ins C.S dx0 (putF "sets" (V.ref ud) [("process_limit", .int p), ("number_limit", .int n), ("tables", .ref td), ("sources", .ref sd)]))) x (.ins C.S dx0 (putF "next_thing" (V.int 0) (putF "sets" (V.ref ud) [("process_limit", .int p), ("number_limit", .int n), ("tables", .ref td), ("sources", .ref sd)]))) x = some (sysO C.S dx0 (newSys p n) td sd ud) := upd_same
    generalize upd (upd (upd H8 ud (.dK [])) x (.ins C.S dx0 (putF "sets" (V.ref ud) [("process_limit", .int p), ("number_limit", .int n), ("tables", .ref td), ("sources", .ref sd)]))) x (.ins C.S dx0 (putF "next_thing" (V.int 0) (putF "sets" (V.ref ud) [("process_limit", .int p), ("number_limit", .int n), ("tables", .ref td), ("sources", .ref sd)]))) = HF at fin xf
    have tdF : HF td = some (.dK [((Sum.inl 0 : Key), V.ref tl)]) := fin _ _ ntx (s9 _ _ (g8 _ _ ntx (g6 _ _ ntx td5)))
    have sdF : HF sd = some (.dK []) := fin _ _ nsx (s9 _ _ sd8)
    have udF : HF ud = some (.dK []) := fin _ _ nux upd_same
    have tlF : HF tl = some (.lst (List.replicate n.toNat [V.non]).flatten) := fin _ _ ntlx (s9 _ _ (g8 _ _ ntlx (g6 _ _ ntlx tl5)))
    have et : (List.replicate n.toNat [V.non]).flatten = (List.replicate n.toNat (none : Option Int)).map optV := by
      rw [List.map_replicate]
      have : ∀ m : Nat, (List.replicate m [V.non]).flatten = List.replicate m V.non := by
        intro m
        induction m with
        | zero => rfl
        | succ m ih => rw [List.replicate_succ, List.flatten_cons, ih]; rfl
      exact this _
    rw [et] at tlF
    have lt0 : ∀ t, live (newSys p n) (.tab t) → t = 0 := fun t h => List.mem_singleton.mp h
    have no : ∀ t : Int, t ∉ ([] : List Int) := fun t h => nomatch h
    refine k HF (initA x td sd ud tl) (fun _ => dx0) rfl ⟨fun c hc => ?_, fun c c' hc hc' z => ?_⟩ (fun b o nb e => fin b o nb (s9 _ _ (g8 b o nb (g6 b o nb (g5 b o nb e))))) (fun b hb => ?_)
    · cases c with
      | box => exact xf
      | tabD => exact tdF
      | srcD => exact sdF
      | setD => exact udF
      | tab t => exact tlF
      | srcT t => exact absurd hc (no t)
      | ws t => exact absurd hc (no t)
      | ent t => exact absurd hc (no t)
      | que t => exact absurd hc (no t)
      | reg t l => exact absurd hc.1 (no t)
    · have n_xt : x ≠ td := Ne.symm ntx
      have n_ts : tl ≠ sd := ne_of tlF sdF (by intro z; cases z)
      have n_tu : tl ≠ ud := ne_of tlF udF (by intro z; cases z)
      have dead : ∀ {c : Cell}, live (newSys p n) c → c = .box ∨ c = .tabD ∨ c = .srcD ∨ c = .setD ∨ c = .tab 0 := fun {c} hc => by
        cases c with
        | box => exact .inl rfl
        | tabD => exact .inr (.inl rfl)
        | srcD => exact .inr (.inr (.inl rfl))
        | setD => exact .inr (.inr (.inr (.inl rfl)))
        | tab t => exact .inr (.inr (.inr (.inr (by rw [lt0 t hc]))))
        | srcT t => exact absurd hc (no t)
        | ws t => exact absurd hc (no t)
        | ent t => exact absurd hc (no t)
        | que t => exact absurd hc (no t)
        | reg t l => exact absurd hc.1 (no t)
      rcases dead hc with rfl | rfl | rfl | rfl | rfl <;> rcases dead hc' with rfl | rfl | rfl | rfl | rfl <;> first | rfl | (exfalso; revert z; first | exact fun z => n_xt z | exact fun z => n_xt z.symm | exact fun z => nsx z | exact fun z => nsx z.symm | exact fun z => nux z | exact fun z => nux z.symm | exact fun z => ntlx z | exact fun z => ntlx z.symm | exact fun z => nst z | exact fun z => nst z.symm | exact fun z => nut z | exact fun z => nut z.symm | exact fun z => nus z | exact fun z => nus z.symm | exact fun z => ntd z | exact fun z => ntd z.symm | exact fun z => n_ts z | exact fun z => n_ts z.symm | exact fun z => n_tu z | exact fun z => n_tu z.symm)
    · obtain ⟨c, hc, rfl⟩ := hb
      cases c with
      | box => exact .inl rfl
      | tabD => exact .inr hd0
      | srcD => exact .inr hsd0
      | setD => exact .inr hud0
      | tab t => exact .inr htl0
      | srcT t => exact absurd hc (no t)
      | ws t => exact absurd hc (no t)
      | ent t => exact absurd hc (no t)
      | que t => exact absurd hc (no t)
      | reg t l => exact absurd hc.1 (no t)
end

/-! a dict comprehension with two clauses: {k: v for t0 in i0 if .. for t1 in i1 if ..} -/
/-- one turn of any clause: the next item, the store, the tests, what the clause does, and round again -/
def oneTurn (t i : Expr) (ifs : List Expr) (it : Value) (env : Env) (deed : Sem Fin → Sem Fin) (round : Sem Fin) : Sem Fin := do
  standAt i.pos
  match ← pyNext it with
  | none => pure (.done .next)
  | some v =>
    letOwnedTupleGo t it v
    assign t env v
    let mut ok := true
    for c in ifs do
      if ok then ok ← isTrue c env (eval c env)
    if ok then deed round else round
abbrev testsOf (ifs : List Expr) (env : Env) : Sem Bool := forIn ifs true fun c r => if r = true then do let ok ← isTrue c env (eval c env); pure (ForInStep.yield ok) else pure (ForInStep.yield r)
theorem oneTurn_wp {M : Model} {A : Around} {t i : Expr} {ifs : List Expr} {it : Value} {env : Env} {deed : Sem Fin → Sem Fin} {round : Sem Fin} {Q : Fin → Shared → Prop} {E : Value → Shared → Prop} {s : Shared}
    (h : wpAny M A (pyNext it) (fun r s1 => match r with
      | none => Q (.done .next) s1
      | some v => wpAny M A (letOwnedTupleGo t it v) (fun _ s2 => wpAny M A (assign t env v) (fun _ s3 => wpAny M A (testsOf ifs env) (fun ok s4 => if ok = true then wpAny M A (deed round) Q E s4 else wpAny M A round Q E s4) E s3) E s2) E s1) E s) :
    wpAny M A (oneTurn t i ifs it env deed round) Q E s := by
  unfold oneTurn
  refine wpAny_bind (wpAny_standAt (wpAny_bind (wpAny_mono h (fun r s1 h1 => ?_) fun _ _ z => z)))
  cases r with
  | none => exact wpAny_pure h1
  | some v =>
    refine wpAny_bind (wpAny_mono h1 (fun _ s2 h2 => wpAny_bind (wpAny_mono h2 (fun _ s3 h3 => wpAny_bind (wpAny_mono h3 (fun ok s4 h4 => ?_) fun _ _ z => z)) fun _ _ z => z)) fun _ _ z => z)
    cases ok with
    | false => exact h4
    | true => exact h4
section
variable (kx vx t0 i0 t1 i1 : Expr) (ifs0 ifs1 : List Expr) (scope : Scope) (pos : Pos)
abbrev dcx : Expr := .DictComp kx vx [⟨t0, i0, ifs0, 0⟩, ⟨t1, i1, ifs1, 0⟩] scope pos
/-- what the first clause does: the second one's whole walk -/
def deed0 (acc : Value) (env : Env) (round : Sem Fin) : Sem Fin := do
  let x ← eval i1 env
  standAt i1.pos
  let y ← foldedSetIterable i1 env x
  let _ ← runOwn (.compStart (dcx kx vx t0 i0 t1 i1 ifs0 ifs1 scope pos) 1 (← holding [y] (pyIter y)) acc env) env
  round
def deed1 (D : Addr) (env : Env) (round : Sem Fin) : Sem Fin := do
  (do
    let kv ← eval kx env
    let vv ← holding [kv] (eval vx env)
    standAt { kx.pos with endLine := vx.pos.endLine, endCol := vx.pos.endCol }
    holding [kv, vv] (dictSet D kv vv))
  round
theorem turn0 (it acc : Value) (env : Env) : compTurn (dcx kx vx t0 i0 t1 i1 ifs0 ifs1 scope pos) 0 it acc env = oneTurn t0 i0 ifs0 it env (deed0 kx vx t0 i0 t1 i1 ifs0 ifs1 scope pos acc env) (again (.compLoop (dcx kx vx t0 i0 t1 i1 ifs0 ifs1 scope pos) 0 it acc env)) := by rfl
theorem turn1 (it : Value) (D : Addr) (env : Env) : compTurn (dcx kx vx t0 i0 t1 i1 ifs0 ifs1 scope pos) 1 it (.ref D) env = oneTurn t1 i1 ifs1 it env (deed1 kx vx D env) (again (.compLoop (dcx kx vx t0 i0 t1 i1 ifs0 ifs1 scope pos) 1 it (.ref D) env)) := by rfl
end
/-- the walk of one clause: what holds before each turn, and what each turn does with the item that has come -/
def Rounds (J : It) (g : TG) (tt : TT) (σ : L2.St) (vs : List Nat) (dd : L2.St → Hp → (Hp → Prop) → Prop) (H0 : Hp) (fin : Hp → Prop) : Prop :=
  ∃ W : Nat → Nat → Hp → Prop, (∃ m, W 0 m H0) ∧ ∀ i m H, W i m H → (J.stop i H ∧ fin H) ∨ (J.go i H ∧ ∃ Nx : Hp → Prop, (∀ H', Nx H' → ∃ m', m' < m ∧ W (i + 1) m' H') ∧
    ∀ x H', J.yld i H x H' → g x (wipe σ vs) H' fun σ2 H2 => wipe σ2 vs = wipe σ vs ∧ tt σ2 H2 fun b H3 => if b = true then dd σ2 H3 Nx else Nx H3)
theorem rounds_loop {Y : Cx} {e t i : Expr} {d : Nat} {ifs : List Expr} {deed : Sem Fin → Sem Fin} {acc : Value} {R : Result → Shared → Prop} {s : Shared} {J : It} {g : TG} {tt : TT} {σ : L2.St} {vs : List Nat} {dd : L2.St → Hp → (Hp → Prop) → Prop} {H0 : Hp} {fin : Hp → Prop}
    {fp : List Addr} {tn : Nat → Heap → Prop} {it : Addr} {pins : List (Addr × Obj)} (hc : Y.calm = true) (hx : Y.xe = fun _ _ => False)
    (hq : (Code.compLoop e d (.ref it) acc Y.env).quiet = true)
    (hn : ∀ (post : Fin → Shared → Prop) (E : Value → Shared → Prop) (s1 : Shared), wpAny (model Y.prog Y.w) Y.A ((compTurn e d (.ref it) acc Y.env).onRaise (fun x => do noteFrame x Y.env; theTreesLotGoes x)) post E s1 → wpAny (model Y.prog Y.w) (Y.A.under (.compLoop e d (.ref it) acc Y.env)) ((model Y.prog Y.w).den (.compLoop e d (.ref it) acc Y.env)) post E s1)
    (he : compTurn e d (.ref it) acc Y.env = oneTurn t i ifs (.ref it) Y.env deed (again (.compLoop e d (.ref it) acc Y.env)))
    (pg : PG Y t g) (pt : PTs Y ifs tt) (T : Turn Y.prog Y.w Y.K t J fp it tn)
    (ff : ∀ σ H s, Inv Y pins σ H s → (∀ b ∈ fp, H b = none) → ∀ b ∈ fp, FpOk Y pins H b)
    (I : Inv Y pins (wipe σ vs) H0 s) (st : tn 0 s.heap) (n0 : ∀ b ∈ fp, H0 b = none) (h : Rounds J g tt σ vs dd H0 fin)
    (hd : ∀ pl σ2 H3 s4 Nx (post : Fin → Shared → Prop) (E : Value → Shared → Prop), Inv Y (pins ++ pl) σ2 H3 s4 → dd σ2 H3 Nx →
      (∀ σ9 H' s', Inv Y (pins ++ pl) σ9 H' s' → σ9.length = σ2.length → (∀ (j : Nat) v, (wipe σ2 vs)[j]? = some (some v) → σ9[j]? = some (some v)) → Nx H' → wpAny (model Y.prog Y.w) Y.A (again (.compLoop e d (.ref it) acc Y.env)) post E s') →
      wpAny (model Y.prog Y.w) Y.A (deed (again (.compLoop e d (.ref it) acc Y.env))) post E s4)
    (hf : ∀ s' H', Inv Y pins (wipe σ vs) H' s' → fin H' → R (.ok .next) s') :
    codeAny (model Y.prog Y.w) Y.A (.compLoop e d (.ref it) acc Y.env) R s := by
  obtain ⟨W, ⟨m0, w0⟩, turn⟩ := h
  refine codeAny_loop hq (fun n s' => ∃ i H', Inv Y pins (wipe σ vs) H' s' ∧ tn i s'.heap ∧ (∀ b ∈ fp, H' b = none) ∧ W i n H') (fun n s1 ⟨k, H1, I1, st1, n1, w1⟩ => ?_) m0 ⟨0, H0, I, st, n0, w0⟩
  refine hn _ _ s1 (wpAny_noted ?_)
  rw [he]
  refine oneTurn_wp ?_
  rcases turn k n H1 w1 with ⟨stop, q⟩ | ⟨go, Nx, hN, step⟩
  · refine thnF (T.done Y rfl rfl rfl hc k pins s1 _ H1 (fun _ _ => False) I1 (ff _ _ _ I1 n1) st1 stop) fun r s2 ⟨hr, I2⟩ => ?_
    subst hr
    exact hf s2 H1 I2 q
  · refine thnF (T.item Y rfl rfl rfl hc k pins s1 _ H1 (fun _ _ => False) I1 (ff _ _ _ I1 n1) st1 go) fun r s2 ⟨u, hr, h2⟩ => ?_
    subst hr
    refine thnF h2 fun _ s3 ⟨x, H3, I3, rx, y3, st3, n3⟩ => ?_
    have ho := T.obj _ _ st3
    have a1 := pg.run _ s3 _ H3 x u _ (I3.pinned (ff _ _ _ I3 n3) ho) rx (step x H3 y3)
    rw [hx] at a1
    refine thnF a1 fun _ s4 ⟨σ4, H4, I4, e4, q4⟩ => ?_
    have a2 := pt.run _ s4 σ4 H4 _ I4 q4
    rw [hx] at a2
    refine thnF a2 fun b s5 ⟨H5, I5, q5⟩ => ?_
    -- round again
    have round : ∀ σ9 H' s', Inv Y (pins ++ pinsAt fp s3.heap) σ9 H' s' → σ9.length = σ4.length → (∀ (j : Nat) v, (wipe σ4 vs)[j]? = some (some v) → σ9[j]? = some (some v)) → Nx H' →
        ∃ m, m < n ∧ ∃ i H', Inv Y pins (wipe σ vs) H' s' ∧ tn i s'.heap ∧ (∀ b ∈ fp, H' b = none) ∧ W i m H' := fun σ9 H' s' I' hl hk nx => by
      obtain ⟨m, hm, w'⟩ := hN H' nx
      have stay : ∀ b ∈ fp, ∀ o, s3.heap.get? b = some o → s'.heap.get? b = some o ∧ H' b = none := fun b hb o eo =>
        let z := I'.pin (b, o) (List.mem_append_right _ (List.mem_append_right _ (mem_pinsAt hb eo)))
        ⟨z.1, z.2.1⟩
      refine ⟨m, hm, k + 1, H', I'.unpinned.weak (by rw [hl, ← wipe_length σ4 vs, e4]) (fun j v e => hk j v (by rw [e4]; exact e)), T.keep _ _ _ st3 fun b hb o eo => (stay b hb o eo).1, fun b hb => ?_, w'⟩
      obtain ⟨o, eo, _⟩ := ho b hb
      exact (stay b hb o eo).2
    cases b with
    | false => exact wpAny_pure ⟨rfl, round σ4 H5 s5 I5 rfl (fun j v e => (wipe_some e).1) q5⟩
    | true => exact hd _ σ4 H5 s5 Nx _ _ I5 q5 fun σ9 H' s' I' hl hk nx => wpAny_pure ⟨rfl, round σ9 H' s' I' hl hk nx⟩
section
variable {prog : Program} {w : World} {A : Around} {R : Result → Shared → Prop} {s : Shared} {kx vx t0 i0 t1 i1 : Expr} {ifs0 ifs1 : List Expr} {scope : Scope} {pos : Pos} {it acc : Value} {env : Env}
/-- the second clause's start: iter() of what is an iterator already, asked once or twice -/
theorem start1 (h0 : codeAny (model prog w) A (.compLoop (dcx kx vx t0 i0 t1 i1 ifs0 ifs1 scope pos) 1 it acc env) R s)
    (h : wpAny (model prog w) A (pyIter it) (fun it' s' => codeAny (model prog w) A (.compLoop (dcx kx vx t0 i0 t1 i1 ifs0 ifs1 scope pos) 1 it' acc env) R s') (notedBy (model prog w) A env fun x s' => R (.error x) s') s) :
    codeAny (model prog w) A (.compStart (dcx kx vx t0 i0 t1 i1 ifs0 ifs1 scope pos) 1 it acc env) R s := by
  refine codeAny_of_tree ?_
  show wpAny _ A ((compStart (dcx kx vx t0 i0 t1 i1 ifs0 ifs1 scope pos) 1 it acc env).onRaise (fun x => do noteFrame x env; standAt theWindowsPlace)) _ _ s
  refine wpAny_notedAt ?_
  unfold compStart
  show wpAny _ A (ask >>= _) _ _ s
  refine wpAny_bind (wpAny_askSetting (wpAny_ite ?_))
  have twice : wpAny (model prog w) A (standAt i1.pos) (fun _ s1 => wpAny (model prog w) A (pyIter it) (fun it' s' => codeAny (model prog w) A (.compLoop (dcx kx vx t0 i0 t1 i1 ifs0 ifs1 scope pos) 1 it' acc env) R s') (notedBy (model prog w) A env fun x s' => R (.error x) s') s1) (notedBy (model prog w) A env fun x s' => R (.error x) s') s := wpAny_standAt h
  split
  · first
      | exact wpAny_pure ⟨rfl, h0⟩
      | exact wpAny_bind (wpAny_pure (wpAny_pure ⟨rfl, h0⟩))
  · refine wpAny_bind (wpAny_rule ?_)
    exact wpAny_bind (wpAny_mono twice (fun _ s1 h1 => wpAny_bind (wpAny_mono h1 (fun it' s' h' => wpAny_pure ⟨rfl, h'⟩) fun _ _ z => z)) fun _ _ z => z)
/-- what the first clause does, by its pieces -/
theorem deed0_wp {round : Sem Fin} {Q : Fin → Shared → Prop} {E : Value → Shared → Prop} (hs : ∀ x, foldedSetIterable i1 env x = pure x)
    (h : wpAny (model prog w) A (eval i1 env) (fun x s1 => wpAny (model prog w) A (pyIter x) (fun it1 s2 => codeAny (model prog w) A (.compStart (dcx kx vx t0 i0 t1 i1 ifs0 ifs1 scope pos) 1 it1 acc env) (fun r s' => match r with
        | .ok _ => wpAny (model prog w) A round Q E s'
        | .error _ => False) s2) E s1) E s) : wpAny (model prog w) A (deed0 kx vx t0 i0 t1 i1 ifs0 ifs1 scope pos acc env round) Q E s := by
  unfold deed0
  refine wpAny_bind (wpAny_mono h (fun x s1 h1 => wpAny_bind (wpAny_standAt (wpAny_bind (wpAny_of_eq (hs x) (wpAny_bind (wpAny_holding (wpAny_mono h1 (fun it1 s2 h2 => ?_) fun _ _ z => z))))))) fun _ _ z => z)
  refine wpAny_bind (wpAny_runOwn ?_)
  rw [Around.mark_none]
  refine codeAny_mono h2 fun r s' hr => ?_
  cases r with
  | ok f => exact hr
  | error e => exact hr.elim
theorem deed1_wp {round : Sem Fin} {Q : Fin → Shared → Prop} {E : Value → Shared → Prop} {D : Addr}
    (h : wpAny (model prog w) A (eval kx env) (fun kv s1 => wpAny (model prog w) A (eval vx env) (fun vv s2 => wpAny (model prog w) A (dictSet D kv vv) (fun _ s3 => wpAny (model prog w) A round Q E s3) E s2) E s1) E s) :
    wpAny (model prog w) A (deed1 kx vx D env round) Q E s := by
  unfold deed1
  exact wpAny_bind (wpAny_bind (wpAny_mono h (fun kv s1 h1 => wpAny_bind (wpAny_holding (wpAny_mono h1 (fun vv s2 h2 => wpAny_bind (wpAny_standAt (wpAny_holding h2))) fun _ _ z => z))) fun _ _ z => z))
end
section
variable {X : Cx}
/-- true of the block's context, wherever the block stands -/
abbrev Blk (X : Cx) (scope : Scope) (F : Cx → Prop) : Prop := ∀ (s : Shared) (H : Hp) (C : Addr) (cl : List (Str × Addr)) (fp : List Addr), F (X.blk s H scope (compEnvC scope cl C X.env) fp)
def tDc2 (wi : TI) (g : TG) (tt : TT) (wi1 : TI) (g1 : TG) (tt1 : TT) (tk tv : TE) (vs vs1 : List Nat) : TE := fun σ H Q => wi σ H fun J H1 => ∀ D, H1 D = none →
  Rounds J g tt σ vs (fun σ2 H3 Nx => wi1 σ2 H3 fun J1 H4 => Rounds J1 g1 tt1 σ2 vs1 (fun σ3 H6 Nx1 => tk σ3 H6 fun y H7 => tv σ3 H7 fun z H8 => ∃ kvs k, y = kV k ∧ H8 D = some (.dK kvs) ∧ kvs.length < sizeLine ∧ Nx1 (upd H8 D (.dK (putK kvs k z)))) H4 Nx) (upd H1 D (.dK [])) (Q (.ref D))
theorem pe_dc2 {kx vx t0 i0 t1 i1 : Expr} {ifs0 ifs1 : List Expr} {scope : Scope} {own : List (Str × Nat)} {vs1 : List Nat} {pos : Pos} {wi wi1 : TI} {g g1 : TG} {tt tt1 : TT} {tk tv : TE} (hc : X.calm = true) (hN : X.N.Nodup) (hi : PI X t0 i0 wi) (ok : BlkOk X.N X.env.scope scope own) (hv : ∀ i ∈ vs1, i ∈ own.map (·.2))
    (hg : Blk X scope fun Y => PG Y t0 g) (ht : Blk X scope fun Y => PTs Y ifs0 tt) (hi1 : Blk X scope fun Y => PI Y t1 i1 wi1) (hg1 : Blk X scope fun Y => PG Y t1 g1) (ht1 : Blk X scope fun Y => PTs Y ifs1 tt1)
    (hk : Blk X scope fun Y => PE Y kx tk) (he : Blk X scope fun Y => PE Y vx tv) (hs : ∀ x, foldedSetIterable i0 X.env x = pure x := by intro _; rfl) (hs1 : ∀ env x, foldedSetIterable i1 env x = pure x := by intro _ _; rfl) :
    PE X (dcx kx vx t0 i0 t1 i1 ifs0 ifs1 scope pos) (tDc2 wi g tt wi1 g1 tt1 tk tv (own.map (·.2)) vs1) := by
  refine ⟨fun pins s σ H Q I h => ?_⟩
  rw [arm_eval_DictComp]
  have hfree : ∀ y ∈ scope.names, y.2 = .free → ∃ c, X.env.cells.lookup y.1 = some c := fun y hy e => I.ok.has _ (ok.free y hy e)
  refine wpAny_comprehension_free (use := none) rfl hs (closure_ok hfree) ok.kind (fun y hy e => by rw [ok.uniq y hy, e]) (thn (hi.run pins s σ H _ I h) fun xv s1 hx => thn hx fun itv s2 ⟨it, fp, tn, J, H2, e, I2, T, st2, f2, q⟩ => ?_)
  subst e
  refine wpAny_newObj_type (newEnv_comp ?_)
  generalize hD : s2.heap.objs.size = D
  have q := q D (I2.hok.fresh (Nat.le_of_eq hD))
  generalize hs3 : ({ s2 with heap := s2.heap.push { cls := .type "dict", data := .dict #[] } } : Shared) = s3
  have h3 : s3.heap = s2.heap.push { cls := .type "dict", data := .dict #[] } := by rw [← hs3]
  have I3 : Inv X pins σ (upd H2 D (.dK [])) s3 := by
    rw [← hs3]
    refine I2.laid (t' := s2.toks) (fun b o e => Heap.get?_push_of_some _ e) (Nat.le_of_eq hD) ?_
    rw [← hD]
    exact dk_empty s2.heap I2.big
  have f3 : ∀ b ∈ fp, FpOk X pins (upd H2 D (.dK [])) b ∧ b < s3.heap.objs.size := fun b hb => by
    obtain ⟨o, eo, _⟩ := T.obj _ _ st2 b hb
    have lt : b < s2.heap.objs.size := Heap.lt_size eo
    refine ⟨⟨?_, (f2 b hb).2⟩, by rw [h3, Heap.size_push]; exact Nat.lt_succ_of_lt lt⟩
    rw [upd_ne (by rw [← hD]; exact Nat.ne_of_lt lt)]
    exact (f2 b hb).1
  have st3 : tn 0 s3.heap := T.keep _ _ _ st2 fun b _ o eo => by rw [h3]; exact Heap.get?_push_of_some _ eo
  have I4 := block_start I3 ok hN f3
  have pg := hg s3 (upd H2 D (.dK [])) s3.heap.objs.size (cellsFrom (s3.heap.objs.size + 1) scope.names (cloFrom X.env.cells scope.names [])) fp
  have pt := ht s3 (upd H2 D (.dK [])) s3.heap.objs.size (cellsFrom (s3.heap.objs.size + 1) scope.names (cloFrom X.env.cells scope.names [])) fp
  have pi := hi1 s3 (upd H2 D (.dK [])) s3.heap.objs.size (cellsFrom (s3.heap.objs.size + 1) scope.names (cloFrom X.env.cells scope.names [])) fp
  have pg1 := hg1 s3 (upd H2 D (.dK [])) s3.heap.objs.size (cellsFrom (s3.heap.objs.size + 1) scope.names (cloFrom X.env.cells scope.names [])) fp
  have pt1 := ht1 s3 (upd H2 D (.dK [])) s3.heap.objs.size (cellsFrom (s3.heap.objs.size + 1) scope.names (cloFrom X.env.cells scope.names [])) fp
  have pk := hk s3 (upd H2 D (.dK [])) s3.heap.objs.size (cellsFrom (s3.heap.objs.size + 1) scope.names (cloFrom X.env.cells scope.names [])) fp
  have pe := he s3 (upd H2 D (.dK [])) s3.heap.objs.size (cellsFrom (s3.heap.objs.size + 1) scope.names (cloFrom X.env.cells scope.names [])) fp
  show codeAny _ _ (.compStart (dcx kx vx t0 i0 t1 i1 ifs0 ifs1 scope pos) 0 (.ref it) (.ref D) (compEnvC scope (cellsFrom (s3.heap.objs.size + 1) scope.names (cloFrom X.env.cells scope.names [])) s3.heap.objs.size X.env)) (compPost (model X.prog X.w) X.A X.xe none (EP X pins σ Q) (.ref D) s3.heap.objs.size) { s3 with heap := pushCells (s3.heap.push { cls := .type "dict", data := .dict #[] }) scope.names }
  generalize hce : compEnvC scope (cellsFrom (s3.heap.objs.size + 1) scope.names (cloFrom X.env.cells scope.names [])) s3.heap.objs.size X.env = ce at I4 pg pt pi pg1 pt1 pk pe ⊢
  have cL : ce.locals = s3.heap.objs.size := by rw [← hce]; rfl
  generalize hs4 : ({ s3 with heap := pushCells (s3.heap.push { cls := .type "dict", data := .dict #[] }) scope.names } : Shared) = s4 at I4 ⊢
  have st4 : tn 0 s4.heap := T.keep _ _ _ st3 fun b _ o eo => by rw [← hs4]; exact pushCells_keeps _ _ _ _ (Heap.get?_push_of_some _ eo)
  have loop : codeAny (model X.prog X.w) X.A (.compLoop (dcx kx vx t0 i0 t1 i1 ifs0 ifs1 scope pos) 0 (.ref it) (.ref D) ce) (compPost (model X.prog X.w) X.A X.xe none (EP X pins σ Q) (.ref D) s3.heap.objs.size) s4 := by
    refine rounds_loop (Y := X.blk s3 (upd H2 D (.dK [])) scope ce fp) (deed := deed0 kx vx t0 i0 t1 i1 ifs0 ifs1 scope pos (.ref D) ce) hc rfl rfl (fun _ _ _ h => h) (turn0 kx vx t0 i0 t1 i1 ifs0 ifs1 scope pos (.ref it) (.ref D) ce) pg pt T (fun σ' H' s' I' hn b hb => ⟨hn b hb, (I'.ok.exf b hb).1, I'.ok.exfs b hb, .inl hb, fun x c eo => (I'.ok.exf b hb).2 x c eo, fun p hp => absurd (show p ∈ ([] : List (Addr × Obj)) ++ [] from hp) (by simp)⟩)
      I4 st4 (fun b hb => (f3 b hb).1.1) q (fun pl σ2 H3 s5 Nx post E I5 dd round => ?_) (fun s' H' I' q' => ?_)
    · refine deed0_wp (hs1 ce) ?_
      have a := pi.run _ s5 σ2 H3 _ I5 dd
      refine thnF a fun x s6 hx6 => thnF hx6 fun itv s7 ⟨it1, fp1, tn1, J1, H4, e1, I7, T1, st7, f7, q1⟩ => ?_
      subst e1
      have loop1 : codeAny (model X.prog X.w) X.A (.compLoop (dcx kx vx t0 i0 t1 i1 ifs0 ifs1 scope pos) 1 (.ref it1) (.ref D) ce) (fun r s' => match r with
          | .ok _ => wpAny (model X.prog X.w) X.A (again (.compLoop (dcx kx vx t0 i0 t1 i1 ifs0 ifs1 scope pos) 0 (.ref it) (.ref D) ce)) post E s'
          | .error _ => False) s7 := by
        refine rounds_loop (Y := X.blk s3 (upd H2 D (.dK [])) scope ce fp) (deed := deed1 kx vx D ce) hc rfl rfl (fun _ _ _ h => h) (turn1 kx vx t0 i0 t1 i1 ifs0 ifs1 scope pos (.ref it1) D ce) pg1 pt1 T1 (fun σ' H' s' I' hn b hb => ⟨hn b hb, (f7 b hb).2⟩)
          (I7.weak (wipe_length σ2 vs1) fun j v eo => (wipe_some eo).1) st7 (fun b hb => (f7 b hb).1) q1 (fun pl1 σ3 H6 s8 Nx1 post1 E1 I8 dd1 round1 => ?_) (fun s' H' I' nx => ?_)
        · refine deed1_wp ?_
          refine thnF (pk.run _ s8 σ3 H6 _ I8 dd1) fun kv s9 ⟨yk, H9, I9, rk, q9⟩ => ?_
          refine thnF (pe.run _ s9 σ3 H9 _ I9 q9) fun vv s10 ⟨yv, H10, I10, rv, kvs, k, ek, hD10, hz, nx⟩ => ?_
          subst ek
          exact d_dictSet (X := X.blk s3 (upd H2 D (.dK [])) scope ce fp) I10 hD10 hz rk rv fun s11 I11 => round1 σ3 _ s11 I11 rfl (fun j v eo => (wipe_some eo).1) nx
        · refine round _ H' s' I' (wipe_length σ2 vs1) (fun j v eo => ?_) nx
          obtain ⟨e3, e4⟩ := wipe_some eo
          rw [wipe_out fun z => e4 (hv j z)]
          exact e3
      exact start1 loop1 (T1.self X.A 0 _ _ _ st7 loop1)
    · have I7 : Inv X pins σ H' s' := I3.call' (ch := fp) I'.os I'.base I'.hok I'.bare fun b hb => ⟨(f3 b hb).1.2.2.2.1, (f3 b hb).1.2.1, (f3 b hb).1.2.2.2.2.1, (f3 b hb).1.2.2.2.2.2⟩
      have nC : H' s3.heap.objs.size = none := by
        have z : H' ce.locals = none := I'.free
        rw [cL] at z
        exact z
      obtain ⟨m, hn, _⟩ := I'.loc
      have hn : s'.heap.Ns ce.locals m := hn
      rw [cL] at hn
      obtain ⟨a0, a1, a2, a3, a4, a5⟩ := I3.fpOk (H' := H') (Nat.le_refl _) nC
      exact ⟨m, hn, fun h'' sb => ⟨.ref D, H', I7.turned (t' := s'.toks) (fun b o hb eo => (sb.2 b hb).trans eo) a0 a1 a3 a4 a5, rfl, q'⟩⟩
  exact codeAny_compStart_dict loop (T.self X.A 0 _ _ _ st4 loop)
end
/-- any walk, by what holds before its turn i -/
theorem rounds_it {J : It} {n : Nat} {G : Hp → Prop} {Y : Nat → Hp → V → Hp → Prop} {g : TG} {tt : TT} {σ : L2.St} {vs : List Nat} {dd : L2.St → Hp → (Hp → Prop) → Prop} {H0 : Hp} {fin : Hp → Prop} (w : Walk J n G Y) (Pv : Nat → Hp → Prop) (h0 : Pv 0 H0) (hG : ∀ i H, i ≤ n → Pv i H → G H)
    (hs : ∀ i x H H', i < n → Pv i H → Y i H x H' → g x (wipe σ vs) H' fun σ2 H2 => wipe σ2 vs = wipe σ vs ∧ tt σ2 H2 fun b H3 => if b = true then dd σ2 H3 (Pv (i + 1)) else Pv (i + 1) H3) (hd : ∀ H, Pv n H → fin H) : Rounds J g tt σ vs dd H0 fin := by
  refine ⟨fun i m H => m + i = n ∧ Pv i H, ⟨n, rfl, h0⟩, fun i m H ⟨e, p⟩ => ?_⟩
  have hi : i ≤ n := by omega
  by_cases hlt : i < n
  · exact .inr ⟨w.goes i H hlt (hG i H hi p), Pv (i + 1), fun H' p' => ⟨m - 1, by omega, by omega, p'⟩, fun x H' y => hs i x H H' hlt p (w.yields i H x H' hlt (hG i H hi p) y)⟩
  · obtain rfl : i = n := by omega
    exact .inl ⟨w.stops H (hG i H hi p), hd H p⟩
/-- the same for the one-clause comprehensions and the list of two clauses -/
theorem tDc_of {wi : TI} {g : TG} {tt : TT} {tk tv : TE} {vs : List Nat} {σ : L2.St} {H : Hp} {Q : VK} (h : wi σ H fun J H1 => ∀ D, H1 D = none → Rounds J g tt σ vs (fun σ2 H3 Nx => tk σ2 H3 fun y H4 => tv σ2 H4 fun z H5 => ∃ kvs k, y = kV k ∧ H5 D = some (.dK kvs) ∧ kvs.length < sizeLine ∧ Nx (upd H5 D (.dK (putK kvs k z)))) (upd H1 D (.dK [])) (Q (.ref D))) : tDc wi g tt tk tv vs σ H Q := h
theorem tLc2_of {wi wi1 : TI} {g g1 : TG} {tt tt1 : TT} {te : TE} {vs vs1 : List Nat} {σ : L2.St} {H : Hp} {Q : VK} (h : wi σ H fun J H1 => ∀ D, H1 D = none → Rounds J g tt σ vs (fun σ2 H3 Nx => wi1 σ2 H3 fun J1 H4 => Rounds J1 g1 tt1 σ2 vs1 (fun σ3 H6 Nx1 => te σ3 H6 fun y H7 => ∃ acc, H7 D = some (.lst acc) ∧ acc.length < sizeLine ∧ Nx1 (upd H7 D (.lst (acc ++ [y])))) H4 Nx) (upd H1 D (.lst [])) (Q (.ref D))) : tLc2 wi g tt wi1 g1 tt1 te vs vs1 σ H Q := h

/-- the things of the tables, in the order in which they are met -/
def rowThings (acc : List Int) : List (Option Int) → List Int
  | [] => acc
  | none :: l => rowThings acc l
  | some t :: l => rowThings (qAdd t acc) l
def thingsOf (S : Sys) : List Int → List Int → List Int
  | acc, [] => acc
  | acc, p :: ps => thingsOf S (rowThings acc (S.tab p)) ps
theorem rowThings_app (acc : List Int) (l : List (Option Int)) (x : Option Int) : rowThings acc (l ++ [x]) = match x with
    | none => rowThings acc l
    | some t => qAdd t (rowThings acc l) := by
  induction l generalizing acc with
  | nil => cases x <;> rfl
  | cons y l ih => cases y <;> exact ih _
theorem thingsOf_app (S : Sys) (acc ps : List Int) (p : Int) : thingsOf S acc (ps ++ [p]) = rowThings (thingsOf S acc ps) (S.tab p) := by
  induction ps generalizing acc with
  | nil => rfl
  | cons y l ih => exact ih _
theorem qAdd_len (t : Int) (l : List Int) : (qAdd t l).length ≤ l.length + 1 := by
  unfold qAdd
  split
  · omega
  · rw [List.length_append]
    exact Nat.le_refl _
theorem rowThings_len (acc : List Int) (l : List (Option Int)) : (rowThings acc l).length ≤ acc.length + l.length := by
  induction l generalizing acc with
  | nil => exact Nat.le_refl _
  | cons y l ih =>
    rw [List.length_cons]
    cases y with
    | none =>
      have h : (rowThings acc (none :: l)).length ≤ acc.length + l.length := ih acc
      omega
    | some t =>
      have h : (rowThings acc (some t :: l)).length ≤ (qAdd t acc).length + l.length := ih _
      have := qAdd_len t acc
      omega
def trueKV (ls : List Int) : List (Key × V) := ls.map fun t => (Sum.inl t, .bl true)
theorem true_put (ls : List Int) (t : Int) : putK (trueKV ls) (Sum.inl t) (.bl true) = trueKV (qAdd t ls) := by
  have any : ∀ l : List Int, (valV (trueKV l) (Sum.inl t)).isSome = decide (t ∈ l) := fun l => by
    induction l with
    | nil => rfl
    | cons x l ih =>
      unfold trueKV at ih ⊢
      rw [List.map_cons]
      by_cases h : x = t
      · subst h
        rw [valV_pos rfl, decide_eq_true List.mem_cons_self]
        rfl
      · rw [valV_neg (fun z => h (Sum.inl.inj z)), ih]
        exact decide_eq_decide.mpr ⟨fun z => List.mem_cons_of_mem _ z, fun z => (List.mem_cons.mp z).elim (fun e => absurd e.symm h) id⟩
  unfold putK qAdd
  rw [valV_any, any]
  by_cases h : t ∈ ls
  · rw [decide_eq_true h, if_pos h]
    show List.map _ (trueKV ls) = _
    unfold trueKV
    rw [List.map_map]
    refine List.map_congr_left fun x _ => ?_
    show (if (Sum.inl x : Key) = Sum.inl t then _ else _) = _
    split <;> rename_i e
    · rw [show x = t from Sum.inl.inj e]
    · rfl
  · rw [decide_eq_false h, if_neg h]
    show trueKV ls ++ _ = _
    unfold trueKV
    rw [List.map_append]
    rfl
section
variable {P : Program} {w : World} {K : PySem.W.Frag} {mg : Str → Option Value} {base : Heap} {C : Cs}
structure RegTxt (mg : Str → Option Value) : Prop where
  sorted : mg "sorted" = none
  list : mg "list" = none
  enum : mg "enumerate" = none
/-- what a system's tables ask of the heap -/
structure TabAt (C : Cs) (H : Hp) (S : Sys) (ad dx : Cell → Addr) : Prop where
  box : H (ad .box) = some (co C S ad dx .box)
  tabD : H (ad .tabD) = some (co C S ad dx .tabD)
  tab : ∀ p ∈ S.procs, H (ad (.tab p)) = some (co C S ad dx (.tab p))
theorem At.tabAt {H : Hp} {S : Sys} {ad dx : Cell → Addr} (A : At C H S ad dx) : TabAt C H S ad dx := ⟨A.at_ _ trivial, A.at_ _ trivial, fun p hp => A.at_ (.tab p) hp⟩
theorem TabAt.same {H H' : Hp} {S : Sys} {ad dx : Cell → Addr} (A : TabAt C H S ad dx) (s : Same H H') : TabAt C H' S ad dx := ⟨s _ _ A.box, s _ _ A.tabD, fun p hp => s _ _ (A.tab p hp)⟩
def OnTab (C : Cs) (vs : List V) (H : Hp) (rest : List V) (k : Sys → (Cell → Addr) → (Cell → Addr) → Prop) : Prop := ∃ (S : Sys) (ad dx : Cell → Addr), vs = .ref (ad .box) :: rest ∧ TabAt C H S ad dx ∧ k S ad dx
def spThings (C : Cs) : Sp := fun vs H Q _ => OnTab C vs H [] fun S ad _ => S.procs.length ≤ 6 ∧ (∀ p ∈ S.procs, (S.tab p).length ≤ 8) ∧
  ∀ (ys : List Int) (H' : Hp) (r : Addr), ys.Perm S.procs → ys.Pairwise (· ≤ ·) → Same H H' → H r = none → H' r = some (.lst ((thingsOf S [] ys).map V.int)) → Q (.ref r) H'
abbrev nThings : List Str := ["self", "tables", "process", "table", "thing"]
theorem scThings : FnScope nThings ["self"] (defScope sThings) := ⟨rfl, rfl, rfl, by decide +kernel, rfl, by decide +kernel, by decide +kernel⟩
theorem okThings {f : Addr} {fd : FuncData} (F : Fun K "things" "System.things" sThings f fd) (X : RegTxt mg) (T : ClsF K C.S sysF) : FnOk P w K mg base CX0 1 f fd ["self"] (spThings C) := by
  refine F.ok scThings (fun vs H Q E h => ?_) (fun cdv A outer s H vs Q E hr h => ?_)
  · obtain ⟨_, _, _, rfl, _⟩ := h
    rfl
  · obtain ⟨S, ad, dx, rfl, A0, hp, ht, k⟩ := h
    have hu := hu_of hr
    refine ⟨_, pss_cut (ps_setLc (i := 1) (own := [("process", 2)]) (g := gName 2) (tt := tYes) (te := tDGet (tFld K (tVar 0) "tables") (tVar 2)) rfl scThings.nd rfl rfl rfl (pi_list (pe_callB (call_sortedDI rfl) (by rfl) X.sorted (by decide +kernel) (pa_cons (pe_fld (pv 0) rfl) pa_nil))) (blkOk_by (N := nThings) (sc := defScope sThings) (by decide +kernel))
        (fun _ _ _ _ _ => pg_name (i := 2) scThings.nd rfl (Or.inl rfl)) (fun _ _ _ _ _ => pts_nil) (fun _ _ _ _ _ => pe_dget hu (pe_fld (pv 0) rfl) (pv 2) (fun _ _ => rfl)))
      (pss_one (ps_ret (pe_callTy (call_listD rfl) (by rfl) X.list (by decide +kernel) (pa_cons (pe_dc2 (own := [("table", 3), ("thing", 4)]) (vs1 := [4]) (g := gName 3) (tt := tYes) (wi1 := iList K (tVar 3)) (g1 := gName 4) (tt1 := tTest (tOp rNotN (tVar 4) (tC .non))) (tk := tVar 4) (tv := tC (.bl true)) rfl scThings.nd (pi_list (pv 1)) (blkOk_by (N := nThings) (sc := defScope sThings) (by decide +kernel)) (by decide)
        (fun _ _ _ _ _ => pg_name (i := 3) scThings.nd rfl (Or.inl rfl)) (fun _ _ _ _ _ => pts_nil) (fun _ _ _ _ _ => pi_list (pv 3)) (fun _ _ _ _ _ => pg_name (i := 4) scThings.nd rfl (Or.inl rfl)) (fun _ _ _ _ _ => pts_one (pt_cmpR oNotN (pv 4) pe_non (nomark _))) (fun _ _ _ _ _ => pv 4) (fun _ _ _ _ _ => pe_bl)) pa_nil)))), ?_⟩
    have hb := A0.box
    refine ⟨fun σ' H1 => ∃ (ys : List Int) (a : Addr), ys.Perm S.procs ∧ ys.Pairwise (· ≤ ·) ∧ σ' = [some (.ref (ad .box)), some (.ref a), none, none, none] ∧ Same H H1 ∧ H1 a = some (.lst (ys.map fun p => .ref (ad (.tab p)))), ?_, ?_⟩
    · walk_at "wn"
      unfold tLc iList
      walk_at "wn"
      refine ⟨_, rfl, ad .box, C.S, dx .box, _, _, rfl, hb, T.cl, T.no _ (by decide), rfl, ?_⟩
      walk_at "wn"
      refine ⟨ad .tabD, _, S.procs, rfl, .inl (A0.tabD), by unfold entKV; rw [List.map_map]; rfl, by omega, fun ys q pm pw hq => ?_⟩
      have s1 := Same.new' (o := .lst (ys.map V.int)) hq
      refine ⟨q, rfl, ⟨_, SqL.of upd_same⟩, fun D hD => ?_⟩
      refine lc_list (K := K) (a := q) (xs := ys.map V.int) (fun i H' => Same (upd H q (.lst (ys.map V.int))) H' ∧ H' D = some (.lst ((ys.take i).map fun p => .ref (ad (.tab p))))) ⟨Same.new' hD, upd_same⟩ (fun i H' _ h => SqL.of (h.1 _ _ upd_same)) ?_ ?_
      · rintro i v H' hv ⟨sm, hd⟩
        rw [List.getElem?_map] at hv
        cases ey : ys[i]? with
        | none => rw [ey] at hv; cases hv
        | some p =>
        rw [ey] at hv
        cases hv
        have hin : p ∈ S.procs := pm.mem_iff.mp (List.mem_of_getElem? ey)
        have hv : valV (entKV S.procs fun p => ad (.tab p)) (Sum.inl p) = some (.ref (ad (.tab p))) := by rw [ent_val, if_pos hin]
        have s2 := s1.trans sm
        walk_at "wn"
        refine ⟨rfl, ?_⟩
        have lp := pm.length_eq
        refine ⟨_, rfl, ad .box, C.S, dx .box, _, _, rfl, s2 _ _ hb, T.cl, T.no _ (by decide), rfl, _, rfl, ad .tabD, _, rfl, hv ▸ DGet.k (k := Sum.inl p) (s2 _ _ (A0.tabD)), _, hd, ?_, fun b o e => ?_, ?_⟩
        · rw [List.length_map, List.length_take, sizeLine_eq]
          omega
        · rw [upd_ne (ne_of_none e hD)]
          exact sm _ _ e
        · rw [upd_same, List.take_add_one, ey, Option.toList_some, List.map_append]
          rfl
      · rintro H' ⟨sm, hd⟩
        rw [List.length_map, List.take_length] at hd
        walk_at "wn"
        exact ⟨ys, D, pm, pw, rfl, s1.trans sm, hd⟩
    · rintro σ' H1 ⟨ys, a, pm, pw, rfl, sm, ha⟩
      walk_at "wn"
      show iList _ (tVar 1) _ _ _
      refine ⟨_, rfl, a, rfl, ⟨_, SqL.of ha⟩, fun D hD => ?_⟩
      have lp := pm.length_eq
      have tl : ∀ i, (thingsOf S [] (ys.take i)).length ≤ 8 * (ys.take i).length := fun i => by
        induction i with
        | zero => simp [thingsOf]
        | succ i ih =>
          rw [List.take_add_one]
          cases ey : ys[i]? with
          | none => rw [Option.toList_none, List.append_nil]; exact ih
          | some p =>
            rw [Option.toList_some, thingsOf_app, List.length_append]
            have a1 := rowThings_len (thingsOf S [] (ys.take i)) (S.tab p)
            have a2 := ht p (pm.mem_iff.mp (List.mem_of_getElem? ey))
            show _ ≤ 8 * (_ + 1)
            omega
      refine rounds_it (walk_list (K := K) (xs := ys.map fun p => .ref (ad (.tab p)))) (fun i H' => Same H1 H' ∧ H' D = some (.dK (trueKV (thingsOf S [] (ys.take i))))) ⟨Same.new' hD, upd_same⟩ (fun i H' _ h => SqL.of (h.1 _ _ ha)) ?_ ?_
      · rintro i x H2 H3 hi ⟨sm2, hd⟩ ⟨rfl, ex⟩
        rw [List.getElem?_map] at ex
        cases ey : ys[i]? with
        | none => rw [ey] at ex; cases ex
        | some p =>
        rw [ey] at ex
        cases ex
        have hin : p ∈ S.procs := pm.mem_iff.mp (List.mem_of_getElem? ey)
        have row := A0.tab p hin
        have li := tl i
        have le : (ys.take i).length ≤ 6 := by rw [List.length_take]; omega
        have l8 := ht p hin
        walk_at "wn"
        refine ⟨rfl, ?_⟩
        walk_at "wn"
        refine ⟨_, rfl, ad (.tab p), rfl, ⟨_, SqL.of (sm2 _ _ (sm _ _ row))⟩, ?_⟩
        refine rounds_it (walk_list (K := K) (xs := (S.tab p).map optV)) (fun j H' => Same H1 H' ∧ H' D = some (.dK (trueKV (rowThings (thingsOf S [] (ys.take i)) ((S.tab p).take j))))) ⟨sm2, hd⟩ (fun j H' _ h => SqL.of (h.1 _ _ (sm _ _ row))) ?_ ?_
        · rintro j x H4 H5 hj ⟨sm4, hd4⟩ ⟨rfl, ex⟩
          rw [List.getElem?_map] at ex
          cases et : (S.tab p)[j]? with
          | none => rw [et] at ex; cases ex
          | some o =>
          rw [et] at ex
          cases ex
          rw [List.take_add_one, et, Option.toList_some, rowThings_app]
          walk_at "wn"
          refine ⟨rfl, ?_⟩
          cases o with
          | none =>
            walk_at "wn"
            exact ⟨sm4, hd4⟩
          | some t =>
            walk_at "wn"
            refine ⟨_, rfl, _, Sum.inl t, rfl, hd4, ?_, fun b q e => ?_, ?_⟩
            · have := rowThings_len (thingsOf S [] (ys.take i)) ((S.tab p).take j)
              rw [List.length_take] at this
              unfold trueKV
              rw [List.length_map, sizeLine_eq]
              omega
            · rw [upd_ne (ne_of_none e hD)]
              exact sm4 _ _ e
            · rw [upd_same, true_put]
        · rintro H' ⟨sm4, hd4⟩
          rw [List.length_map, List.take_length] at hd4
          refine ⟨sm4, ?_⟩
          rw [List.take_add_one, ey, Option.toList_some, thingsOf_app]
          exact hd4
      · rintro H' ⟨sm2, hd⟩
        rw [List.length_map, List.take_length] at hd
        walk_at "wn"
        refine ⟨D, _, rfl, .inl hd, fun r hr => ?_⟩
        have e : (trueKV (thingsOf S [] ys)).map (fun kv => kV kv.1) = (thingsOf S [] ys).map V.int := by
          unfold trueKV
          rw [List.map_map]
          rfl
        rw [e]
        exact k ys _ r pm pw ((sm.trans sm2).trans (Same.new' hr)) ((sm.trans sm2).free hr) upd_same
end

/-- the places of a thing: in one row from the index k on, and in the tables -/
def rowAt (t p : Int) : Nat → List (Option Int) → List (Int × Nat)
  | _, [] => []
  | k, x :: l => if x = some t then (p, k) :: rowAt t p (k + 1) l else rowAt t p (k + 1) l
def placesIn (S : Sys) (t : Int) : List Int → List (Int × Nat)
  | [] => []
  | p :: ps => rowAt t p 0 (S.tab p) ++ placesIn S t ps
theorem rowAt_app (t p : Int) (x : Option Int) : ∀ (l : List (Option Int)) (k : Nat), rowAt t p k (l ++ [x]) = rowAt t p k l ++ (if x = some t then [(p, k + l.length)] else [])
  | [], k => by
    show (if x = some t then (p, k) :: [] else []) = [] ++ _
    split <;> rfl
  | y :: l, k => by
    have ih := rowAt_app t p x l (k + 1)
    rw [Nat.add_right_comm k 1 l.length, Nat.add_assoc] at ih
    show (if y = some t then (p, k) :: rowAt t p (k + 1) (l ++ [x]) else rowAt t p (k + 1) (l ++ [x])) = (if y = some t then (p, k) :: rowAt t p (k + 1) l else rowAt t p (k + 1) l) ++ _
    rw [ih]
    split <;> rfl
theorem placesIn_app (S : Sys) (t p : Int) : ∀ ps : List Int, placesIn S t (ps ++ [p]) = placesIn S t ps ++ rowAt t p 0 (S.tab p)
  | [] => by
    show rowAt t p 0 (S.tab p) ++ [] = [] ++ _
    rw [List.append_nil]
    rfl
  | q :: ps => by
    show rowAt t q 0 (S.tab q) ++ placesIn S t (ps ++ [p]) = (rowAt t q 0 (S.tab q) ++ placesIn S t ps) ++ _
    rw [placesIn_app S t p ps, List.append_assoc]
theorem rowAt_len (t p : Int) : ∀ (l : List (Option Int)) (k : Nat), (rowAt t p k l).length ≤ l.length
  | [], _ => Nat.le_refl _
  | x :: l, k => by
    have ih := rowAt_len t p l (k + 1)
    show (if x = some t then (p, k) :: rowAt t p (k + 1) l else rowAt t p (k + 1) l).length ≤ l.length + 1
    split
    · rw [List.length_cons]
      omega
    · omega
theorem placesIn_len {S : Sys} (t : Int) {ps : List Int} (h : ∀ p ∈ ps, (S.tab p).length ≤ 8) : (placesIn S t ps).length ≤ 8 * ps.length := by
  induction ps with
  | nil => exact Nat.le_refl _
  | cons p ps ih =>
    have a := ih fun q hq => h q (List.mem_cons_of_mem _ hq)
    have b := h p List.mem_cons_self
    have c := rowAt_len t p (S.tab p) 0
    show (rowAt t p 0 (S.tab p) ++ placesIn S t ps).length ≤ 8 * (ps.length + 1)
    rw [List.length_append]
    omega
def PlAt (H : Hp) (v : V) (r : Int × Nat) : Prop := ∃ T, v = .ref T ∧ H T = some (.tup [.int r.1, .int (r.2 : Int)])
theorem plAts_keep {H H' : Hp} {vs : List V} {rs : List (Int × Nat)} (p : Paired (PlAt H) vs rs) (s : ∀ b x y, H b = some (.tup [x, y]) → H' b = some (.tup [x, y])) : Paired (PlAt H') vs rs := by
  induction p with
  | nil => exact .nil
  | cons r _ ih =>
    obtain ⟨T, h1, h2⟩ := r
    exact .cons ⟨T, h1, s _ _ _ h2⟩ ih
theorem plAts_same {H H' : Hp} {vs : List V} {rs : List (Int × Nat)} (p : Paired (PlAt H) vs rs) (s : Same H H') : Paired (PlAt H') vs rs := plAts_keep p fun b x y h => s _ _ h
theorem plAts_snoc {H : Hp} {vs : List V} {rs : List (Int × Nat)} {v : V} {r : Int × Nat} (p : Paired (PlAt H) vs rs) (h : PlAt H v r) : Paired (PlAt H) (vs ++ [v]) (rs ++ [r]) := by
  induction p with
  | nil => exact .cons h .nil
  | cons q _ ih => exact .cons q ih
section
variable {P : Program} {w : World} {K : PySem.W.Frag} {mg : Str → Option Value} {base : Heap} {C : Cs}
def spNumbersOf (C : Cs) : Sp := fun vs H Q _ => ∃ t : Int, OnTab C vs H [.int t] fun S ad _ => S.procs.length ≤ 6 ∧ (∀ p ∈ S.procs, (S.tab p).length ≤ 8) ∧
  ∀ (ys : List Int) (H' : Hp) (r : Addr) (rs : List V), ys.Perm S.procs → ys.Pairwise (· ≤ ·) → Same H H' → H r = none → H' r = some (.lst rs) → Paired (PlAt H') rs (placesIn S t ys) → Q (.ref r) H'
abbrev nNumsOf : List Str := ["self", "thing", "process", "number", "meant"]
theorem scNumsOf : FnScope nNumsOf ["self", "thing"] (defScope sNumbersOf) := ⟨rfl, rfl, rfl, by decide +kernel, rfl, by decide +kernel, by decide +kernel⟩
theorem okNumbersOf {f : Addr} {fd : FuncData} (F : Fun K "numbers_of" "System.numbers_of" sNumbersOf f fd) (X : RegTxt mg) (T : ClsF K C.S sysF) : FnOk P w K mg base CX0 1 f fd ["self", "thing"] (spNumbersOf C) := by
  refine F.ok scNumsOf (fun vs H Q E h => ?_) (fun cdv A outer s H vs Q E hr h => ?_)
  · obtain ⟨_, _, _, _, rfl, _⟩ := h
    rfl
  · obtain ⟨t, S, ad, dx, rfl, A0, hp, ht, k⟩ := h
    have hu := hu_of hr
    refine ⟨_, pss_one (ps_ret (pe_lc2 (own := [("process", 2), ("number", 3), ("meant", 4)]) (vs1 := [3, 4]) (g := gName 2) (tt := tYes) (wi1 := iEnum K (tCons (tDGet (tFld K (tVar 0) "tables") (tVar 2)) tNil)) (g1 := gTup K 2 (gCons (gName 3) (gCons (gName 4) gNil))) (tt1 := tTest (tOp rEq (tVar 4) (tVar 1))) (te := tTup (tCons (tVar 2) (tCons (tVar 3) tNil)))
        rfl scNumsOf.nd (pi_list (pe_callB (call_sortedDI rfl) (by rfl) X.sorted (by decide +kernel) (pa_cons (pe_fld (pv 0) rfl) pa_nil))) (blkOk_by (N := nNumsOf) (sc := defScope sNumbersOf) (by decide +kernel)) (by decide)
        (fun _ _ _ _ _ => pg_name (i := 2) scNumsOf.nd rfl (Or.inl rfl)) (fun _ _ _ _ _ => pts_nil) (fun _ _ _ _ _ => pi_enum (by rfl) X.enum (pa_cons (pe_dget hu (pe_fld (pv 0) rfl) (pv 2) (fun _ _ => rfl)) pa_nil))
        (fun _ _ _ _ _ => pg_tup rfl (pgs_cons (pg_name (i := 3) scNumsOf.nd rfl (Or.inl rfl)) (pgs_cons (pg_name (i := 4) scNumsOf.nd rfl (Or.inl rfl)) pgs_nil))) (fun _ _ _ _ _ => pts_one (pt_cmpR op_eq (pv 4) (pv 1) (nomark _))) (fun _ _ _ _ _ => pe_tup (pa_cons (pv 2) (pa_cons (pv 3) pa_nil))))), ?_⟩
    have hb := A0.box
    walk_at "wn"
    refine tLc2_of ?_
    unfold iList
    walk_at "wn"
    refine ⟨_, rfl, ad .box, C.S, dx .box, _, _, rfl, hb, T.cl, T.no _ (by decide), rfl, ?_⟩
    walk_at "wn"
    refine ⟨ad .tabD, _, S.procs, rfl, .inl (A0.tabD), by unfold entKV; rw [List.map_map]; rfl, by omega, fun ys q pm pw hq => ?_⟩
    have s1 := Same.new' (o := .lst (ys.map V.int)) hq
    have lp := pm.length_eq
    have hty : ∀ i, ∀ p ∈ ys.take i, (S.tab p).length ≤ 8 := fun i p hp => ht p (pm.mem_iff.mp (List.mem_of_mem_take hp))
    refine ⟨q, rfl, ⟨_, SqL.of upd_same⟩, fun D hD => ?_⟩
    generalize hH1 : upd H q (.lst (ys.map V.int)) = H1 at s1 hD ⊢
    have hq1 : H1 q = some (.lst (ys.map V.int)) := by rw [← hH1]; exact upd_same
    refine rounds_it (walk_list (K := K) (xs := ys.map V.int)) (fun i H' => ∃ rs, Same H1 H' ∧ H' D = some (.lst rs) ∧ Paired (PlAt H') rs (placesIn S t (ys.take i))) ⟨[], Same.new' hD, upd_same, .nil⟩ (fun i H' _ ⟨_, sm, _⟩ => SqL.of (sm _ _ hq1)) ?_ ?_
    · rintro i x H2 H3 hi ⟨rs, sm, hd, pr⟩ ⟨rfl, ex⟩
      rw [List.getElem?_map] at ex
      cases ey : ys[i]? with
      | none => rw [ey] at ex; cases ex
      | some p =>
      rw [ey] at ex
      cases ex
      have hin : p ∈ S.procs := pm.mem_iff.mp (List.mem_of_getElem? ey)
      have hv : valV (entKV S.procs fun p => ad (.tab p)) (Sum.inl p) = some (.ref (ad (.tab p))) := by rw [ent_val, if_pos hin]
      have row := s1 _ _ (A0.tab p hin)
      have hb1 := s1 _ _ hb
      have hT1 := s1 _ _ (A0.tabD)
      have l8 := ht p hin
      have li := placesIn_len t (hty i)
      have le : (ys.take i).length ≤ 6 := by rw [List.length_take]; omega
      walk_at "wn"
      refine ⟨rfl, ?_⟩
      walk_at "wn"
      refine ⟨_, rfl, ad .box, C.S, dx .box, _, _, rfl, sm _ _ hb1, T.cl, T.no _ (by decide), rfl, _, rfl, ad .tabD, _, rfl, hv ▸ DGet.k (k := Sum.inl p) (sm _ _ hT1), ?_⟩
      refine ⟨ad (.tab p), _, rfl, SqL.of (sm _ _ row), ?_⟩
      refine rounds_it (walk_enum (xs := (S.tab p).map optV)) (fun j H' => ∃ rs, Same H1 H' ∧ H' D = some (.lst rs) ∧ Paired (PlAt H') rs (placesIn S t (ys.take i) ++ rowAt t p 0 ((S.tab p).take j))) ⟨rs, sm, hd, by rw [List.take_zero]; show Paired _ _ (_ ++ []); rw [List.append_nil]; exact pr⟩ (fun j H' _ ⟨_, sm, _⟩ => SqL.of (sm _ _ row)) ?_ ?_
      · rintro j x H4 H5 hj ⟨rs, sm, hd, pr⟩ ⟨T1, x1, y1, rfl, nT, rfl, ex, ey1⟩
        have s2 := Same.new' (o := .tup [x1, y1]) nT
        obtain rfl := Option.some.inj ex
        have ey1 : ((S.tab p).map optV)[j]? = some y1 := ey1
        rw [List.getElem?_map] at ey1
        cases et : (S.tab p)[j]? with
        | none => rw [et] at ey1; cases ey1
        | some o =>
        rw [et] at ey1
        cases ey1
        have jl : ((S.tab p).take j).length = j := by
          have := (List.getElem?_eq_some_iff.mp et).1
          rw [List.length_take]
          omega
        rw [List.take_add_one, et, Option.toList_some, rowAt_app, jl, Nat.zero_add, ← List.append_assoc]
        have hd1 := s2 _ _ hd
        have pr1 := plAts_same pr s2
        have sm1 := sm.trans s2
        refine ⟨T1, _, rfl, SqT.of upd_same, rfl, _, _, rfl, ?_⟩
        walk_at "wn"
        refine ⟨_, _, rfl, ?_⟩
        walk_at "wn"
        refine ⟨rfl, rfl, ?_⟩
        generalize upd H4 T1 (.tup [V.int (j : Int), optV o]) = H6 at sm1 hd1 pr1
        have sc : scal (optV o) (.int t) = true := by cases o <;> rfl
        have dc : decide (optV o = .int t) = decide (o = some t) := by
          cases o with
          | none => rfl
          | some u => exact decide_eq_decide.mpr ⟨fun z => by rw [V.int.inj z], fun z => by rw [Option.some.inj z]; rfl⟩
        walk_at "wn"
        refine ⟨sc, _, rfl, ?_⟩
        rw [dc]
        by_cases ho : o = some t
        · subst ho
          rw [if_pos rfl, decide_eq_true rfl]
          refine iteT ?_
          walk_at "wn"
          refine ⟨by show 2 ≤ sizeLine; decide, fun T2 hT2 => ?_⟩
          have nT2 : T2 ≠ D := fun z => by rw [z, hd1] at hT2; cases hT2
          have s3 := Same.new' (o := .tup [.int p, .int (j : Int)]) hT2
          have kp : ∀ b x y, upd H6 T2 (.tup [.int p, .int (j : Int)]) b = some (.tup [x, y]) → upd (upd H6 T2 (.tup [.int p, .int (j : Int)])) D (.lst (rs ++ [.ref T2])) b = some (.tup [x, y]) := fun b x y h => by
            rw [upd_ne (fun z => by rw [z, upd_ne (Ne.symm nT2), hd1] at h; cases h)]
            exact h
          refine ⟨rs, s3 _ _ hd1, ?_, _, fun b o z => ?_, upd_same, plAts_snoc (plAts_keep (plAts_same pr1 s3) kp) ⟨T2, rfl, kp _ _ _ upd_same⟩⟩
          · have h1 := pr1.length
            rw [List.length_append] at h1
            have h2 := rowAt_len t p ((S.tab p).take j) 0
            rw [List.length_take] at h2
            rw [sizeLine_eq]
            omega
          · rw [upd_ne (fun y => by rw [y] at z; rw [hD] at z; cases z)]
            exact (sm1.trans s3) b o z
        · rw [if_neg ho, decide_eq_false ho, List.append_nil]
          refine iteF ?_
          exact ⟨rs, sm1, hd1, pr1⟩
      · rintro H' ⟨rs, sm, hd, pr⟩
        rw [List.length_map, List.take_length] at pr
        refine ⟨rs, sm, hd, ?_⟩
        rw [List.take_add_one, ey, Option.toList_some, placesIn_app]
        exact pr
    · rintro H' ⟨rs, sm, hd, pr⟩
      rw [List.length_map, List.take_length] at pr
      exact k ys _ D rs pm pw (s1.trans sm) (s1.free hD) hd pr
def spNameOf (C : Cs) : Sp := fun vs H Q _ => ∃ t : Int, OnTab C vs H [.int t] fun S ad _ => S.procs.length ≤ 6 ∧ (∀ p ∈ S.procs, (S.tab p).length ≤ 8) ∧ (∃ p ∈ S.procs, ∃ n : Nat, (S.tab p)[n]? = some (some t)) ∧
  ∀ (ys : List Int) (H' : Hp) (v : V) (r : Int × Nat), ys.Perm S.procs → ys.Pairwise (· ≤ ·) → Same H H' → (placesIn S t ys)[0]? = some r → PlAt H' v r → Q v H'
theorem scNameOf : FnScope ["self", "thing"] ["self", "thing"] (defScope sNameOf) := ⟨rfl, rfl, rfl, by decide +kernel, rfl, by decide +kernel, by decide +kernel⟩
theorem rowAt_some {t p : Int} : ∀ {l : List (Option Int)} {n k : Nat}, l[n]? = some (some t) → rowAt t p k l ≠ []
  | x :: l, 0, k, h => by
    rw [List.getElem?_cons_zero] at h
    cases h
    show (if some t = some t then _ else _) ≠ []
    rw [if_pos rfl]
    exact fun z => by cases z
  | x :: l, n + 1, k, h => by
    rw [List.getElem?_cons_succ] at h
    have ih := rowAt_some (p := p) (k := k + 1) h
    show (if x = some t then _ else _) ≠ []
    split
    · exact fun z => by cases z
    · exact ih
theorem placesIn_some {S : Sys} {t p : Int} {n : Nat} (h : (S.tab p)[n]? = some (some t)) : ∀ {ps : List Int}, p ∈ ps → placesIn S t ps ≠ []
  | q :: ps, hp => by
    show rowAt t q 0 (S.tab q) ++ placesIn S t ps ≠ []
    rcases List.mem_cons.mp hp with e | e
    · subst e
      exact fun z => rowAt_some h (List.append_eq_nil_iff.mp z).1
    · exact fun z => placesIn_some h e (List.append_eq_nil_iff.mp z).2
theorem okNameOf {f fN : Addr} {fd fdN : FuncData} (F : Fun K "name_of" "System.name_of" sNameOf f fd) (T : ClsF K C.S sysF) (GN : MO P w K mg base 1 C.S "numbers_of" ["self", "thing"] (spNumbersOf C) fN fdN) : FnOk P w K mg base CX0 2 f fd ["self", "thing"] (spNameOf C) := by
  refine F.ok scNameOf (fun vs H Q E h => ?_) (fun cdv A outer s H vs Q E hr h => ?_)
  · obtain ⟨_, _, _, _, rfl, _⟩ := h
    rfl
  · obtain ⟨t, S, ad, dx, rfl, A0, hp, ht, ⟨p, hpS, n, hn⟩, k⟩ := h
    refine ⟨_, pss_one (ps_ret (pe_ix ix_list (pe_meth (pv 0) T.cl GN.m GN.g hr GN.b .nil pass0 (pa_cons (pv 1) pa_nil)) pe_int (fun _ _ => rfl))), ?_⟩
    have hb := A0.box
    walk_at "wn"
    refine ⟨_, rfl, ad .box, dx .box, _, rfl, hb, rfl, ?_⟩
    walk_at "wn"
    refine ⟨t, S, ad, dx, rfl, A0, hp, ht, fun ys H' r rs pm pw sm nr hrs pr => ?_⟩
    walk_at "wn"
    have ne := placesIn_some hn (pm.mem_iff.mpr hpS)
    have kk := k ys H'
    generalize placesIn S t ys = pl at pr ne kk
    cases pr with
    | nil => exact absurd rfl ne
    | @cons v1 r1 vs1 rs1 a b =>
      refine ⟨r, _, _, _, rfl, rfl, SqL.of hrs, atI_nat (xs := v1 :: vs1) (v := v1) (j := 0) rfl, kk v1 r1 pm pw sm rfl a⟩
end

theorem mem_without {l x : Int} {ls : List Int} : x ∈ without l ls ↔ x ∈ ls ∧ x ≠ l := by
  unfold without
  rw [List.mem_filter]
  simp
theorem without_len (l : Int) (ls : List Int) : (without l ls).length ≤ ls.length := List.length_filter_le _ _
/-- labels dropped, one after another -/
def dropAll (ls : List Int) : List Int → List Int
  | [] => ls
  | l :: D => dropAll (without l ls) D
def ofSrc (reg : Int → Reg) (t : Int) (ls : List Int) : List Int := ls.filter fun l => decide ((reg l).src = t)
theorem dropAll_snoc (x : Int) : ∀ (D ls : List Int), dropAll ls (D ++ [x]) = without x (dropAll ls D)
  | [], _ => rfl
  | l :: D, ls => dropAll_snoc x D (without l ls)
theorem mem_dropAll {x : Int} : ∀ {D ls : List Int}, x ∈ dropAll ls D ↔ x ∈ ls ∧ x ∉ D
  | [], ls => ⟨fun h => ⟨h, List.not_mem_nil⟩, fun h => h.1⟩
  | l :: D, ls => by
    show x ∈ dropAll (without l ls) D ↔ _
    rw [mem_dropAll, mem_without, List.mem_cons]
    constructor
    · rintro ⟨⟨a, b⟩, c⟩
      exact ⟨a, fun z => z.elim b c⟩
    · rintro ⟨a, b⟩
      exact ⟨⟨a, fun z => b (.inl z)⟩, fun z => b (.inr z)⟩
theorem dropAll_len : ∀ (D ls : List Int), (dropAll ls D).length ≤ ls.length
  | [], _ => Nat.le_refl _
  | l :: D, ls => Nat.le_trans (dropAll_len D (without l ls)) (without_len l ls)
section
variable {P : Program} {w : World} {K : PySem.W.Frag} {mg : Str → Option Value} {base : Heap} {C : Cs} {CW CR : Addr}
/-! drop_source -/
def spDropSource (CW CR : Addr) : Sp := fun vs H Q _ => ∃ (a dx e q : Addr) (s : Int) (qs ls : List Int) (ad : Int → Addr) (reg : Int → Reg), vs = [.ref a, .int s] ∧ H a = some (wsO CW dx e q) ∧ H q = some (.lst (qs.map V.int)) ∧ H e = some (.dK (entKV ls ad)) ∧ RegsAt CR H ls ad reg ∧ ls.Nodup ∧ qs.length ≤ 4000 ∧ ls.length ≤ 4000 ∧
  ∀ H' q', (q' = q ∨ H q' = none) → H' a = some (wsO CW dx e q') → H' q' = some (.lst ((dropAll qs (ofSrc reg s ls)).map V.int)) → H' e = some (.dK (entKV (dropAll ls (ofSrc reg s ls)) ad)) → (∀ b o, b ≠ a → b ≠ e → H b = some o → H' b = some o) → Q .non H'
abbrev nDropS : List Str := ["self", "source", "labels", "label", "kept"]
theorem scDropSource : FnScope nDropS ["self", "source"] (defScope sDropSource) := ⟨rfl, rfl, rfl, by decide +kernel, rfl, by decide +kernel, by decide +kernel⟩
theorem okDropSource {f fD : Addr} {fd fdD : FuncData} (F : Fun K "drop_source" "WaitingSet.drop_source" sDropSource f fd) (T : ClsF K CW wsF) (TR : ClsF K CR regF) (GD : MO P w K mg base 1 CW "drop" ["self", "label"] (spDrop CW) fD fdD) : FnOk P w K mg base CX0 2 f fd ["self", "source"] (spDropSource CW CR) := by
  refine F.ok scDropSource (fun vs H Q E h => ?_) (fun cdv A outer s H vs Q E hr h => ?_)
  · obtain ⟨_, _, _, _, _, _, _, _, _, rfl, _⟩ := h
    rfl
  · obtain ⟨a, dx, e, q, s, qs, ls, ad, reg, rfl, ha, hq, he, hR, nd, hz, hz2, k⟩ := h
    refine ⟨_, pss_cut (ps_lock (ps_setLc (i := 2) (own := [("label", 3), ("kept", 4)]) (g := gTup K 2 (gCons (gName 3) (gCons (gName 4) gNil))) (tt := tTest (tOp rEq (tFld K (tVar 4) "source") (tVar 1))) (te := tVar 3) rfl scDropSource.nd rfl rfl rfl (pi_items (pe_fld (pv 0) rfl)) (blkOk_by (N := nDropS) (sc := defScope sDropSource) (by decide +kernel))
        (fun _ _ _ _ _ => pg_tup rfl (pgs_cons (pg_name (i := 3) scDropSource.nd rfl (Or.inl rfl)) (pgs_cons (pg_name (i := 4) scDropSource.nd rfl (Or.inl rfl)) pgs_nil))) (fun _ _ _ _ _ => pts_one (pt_cmpR op_eq (pe_fld (pv 4) rfl) (pv 1) (nomark _))) (fun _ _ _ _ _ => pv 3)))
      (pss_one (ps_for PassesOwn.never rfl (pi_list (pv 2)) (pg_name (i := 3) scDropSource.nd rfl (Or.inl rfl)) (pss_one (ps_expr (pe_meth (pv 0) T.cl GD.m GD.g hr GD.b .nil pass0 (pa_cons (pv 3) pa_nil)))))), ?_⟩
    have nae : a ≠ e := ne_of ha he (by intro z; cases z)
    have nqe : q ≠ e := ne_of hq he (by intro z; cases z)
    have naq : a ≠ q := ne_of ha hq (by intro z; cases z)
    refine ⟨fun σ' H' => ∃ (D : Addr) (u v : Option V), σ' = [some (.ref a), some (.int s), some (.ref D), u, v] ∧ Same H H' ∧ H D = none ∧ H' D = some (.lst ((ofSrc reg s ls).map V.int)), ?_, ?_⟩
    · refine ⟨e, _, he, trivial, fun od => ?_⟩
      refine ⟨_, rfl, a, CW, dx, _, _, rfl, by rw [upd_ne nae]; exact ha, T.cl, T.no _ (by decide), rfl, ?_⟩
      refine ⟨e, od, entKV ls ad, rfl, upd_same, fun D hD => ?_⟩
      have un : ∀ {H1 : Hp}, Same (upd H e (.frz od (.dK (entKV ls ad)))) H1 → Same H (upd H1 e (.dK (entKV ls ad))) := fun {H1} sm b o e1 => by
        by_cases hb : b = e
        · rw [hb, upd_same, ← he, ← hb, e1]
        · rw [upd_ne hb]
          exact sm _ _ (by rw [upd_ne hb]; exact e1)
      have hR1 : ∀ j ∈ ls, ∃ dx, upd H e (.frz od (.dK (entKV ls ad))) (ad j) = some (regO CR dx (reg j).num (reg j).src (reg j).word (reg j).armed) := fun j hj => by
        obtain ⟨dj, ej⟩ := hR j hj
        exact ⟨dj, by rw [upd_ne (ne_of ej he (by intro z; cases z))]; exact ej⟩
      have nDe : D ≠ e := fun z => by rw [z, upd_same] at hD; cases hD
      have hD0 : H D = none := by rw [upd_ne nDe] at hD; exact hD
      refine lc_it walk_items (fun i H' => Same (upd H e (.frz od (.dK (entKV ls ad)))) H' ∧ H' D = some (.lst ((ofSrc reg s (ls.take i)).map V.int))) ⟨Same.new' hD, upd_same⟩ (fun i H' _ h => h.1 _ _ upd_same) ?_ (fun H' h => ?_)
      · rintro i x H1 H2 hi ⟨sm, hd⟩ ⟨T1, x1, y1, rfl, nT, rfl, ex, ey⟩
        have hi' : i < ls.length := by unfold entKV at hi; rwa [List.length_map] at hi
        have e1 : (entKV ls ad)[i]? = some (Sum.inl ls[i], .ref (ad ls[i])) := by
          unfold entKV
          rw [List.getElem?_map, List.getElem?_eq_getElem hi']
          rfl
        have ex : (entKV ls ad)[i]?.map (fun kv => kV kv.1) = some x1 := ex
        have ey : (entKV ls ad)[i]?.map Prod.snd = some y1 := ey
        rw [e1] at ex ey
        cases ex
        cases ey
        have sT := Same.new' (o := .tup [V.int ls[i], V.ref (ad ls[i])]) nT
        have smT := sm.trans sT
        have hdT := sT _ _ hd
        obtain ⟨dr, er⟩ := hR1 ls[i] (List.getElem_mem hi')
        have er2 := smT _ _ er
        have et : ofSrc reg s (ls.take (i + 1)) = ofSrc reg s (ls.take i) ++ (if (reg ls[i]).src = s then [ls[i]] else []) := by
          unfold ofSrc
          rw [List.take_add_one, List.getElem?_eq_getElem hi', Option.toList_some, List.filter_append, List.filter_cons, List.filter_nil]
          congr 1
          by_cases h : (reg ls[i]).src = s
          · rw [if_pos h, if_pos (decide_eq_true h)]
          · rw [if_neg h, if_neg (by rw [decide_eq_false h]; exact Bool.noConfusion)]
        refine ⟨T1, _, rfl, SqT.of upd_same, rfl, _, _, rfl, ?_⟩
        walk_at "wn"
        refine ⟨_, _, rfl, ?_⟩
        walk_at "wn"
        refine ⟨rfl, rfl, ?_⟩
        show tTest _ _ _ _
        refine ⟨_, rfl, ad ls[i], CR, dr, _, _, rfl, er2, TR.cl, TR.no _ (by decide), rfl, _, rfl, rfl, _, rfl, ?_⟩
        by_cases h : (reg ls[i]).src = s
        · rw [decide_eq_true (by rw [h]), et, if_pos h, List.map_append]
          walk_at "wn"
          refine ⟨_, hdT, ?_, fun b o z => ?_, upd_same⟩
          · rw [List.length_map]
            have : (ofSrc reg s (ls.take i)).length ≤ (ls.take i).length := List.length_filter_le _ _
            rw [List.length_take] at this
            rw [sizeLine_eq]
            omega
          · rw [upd_ne (ne_of_none z hD)]
            exact smT _ _ z
        · rw [decide_eq_false fun z => h (V.int.inj z), et, if_neg h, List.append_nil]
          walk_at "wn"
          exact ⟨smT, hdT⟩
      · obtain ⟨sm, hd⟩ := h
        have el : ls.take (entKV ls ad).length = ls := by unfold entKV; rw [List.length_map, List.take_length]
        rw [el] at hd
        show _ ∧ _
        refine ⟨sm _ _ upd_same, ?_⟩
        walk_at "wn"
        exact ⟨D, _, _, rfl, un sm, hD0, (upd_ne nDe).trans hd⟩
    · rintro σ' H1 ⟨D, u, v, rfl, s1, nD, hD⟩
      have ndD : (ofSrc reg s ls).Nodup := nd.filter _
      have hDl : (ofSrc reg s ls).length ≤ ls.length := List.length_filter_le _ _
      have nDa : D ≠ a := fun z => by rw [z, ha] at nD; cases nD
      have nDe : D ≠ e := fun z => by rw [z, he] at nD; cases nD
      walk_at "wn"
      refine ⟨_, rfl, D, rfl, ⟨_, SqL.of hD⟩, ?_⟩
      refine for_it (walk_list (K := K) (xs := (ofSrc reg s ls).map V.int)) (fun i σ' H' => ∃ (u v : Option V) (q' : Addr), σ' = [some (.ref a), some (.int s), some (.ref D), u, v] ∧ (q' = q ∨ H q' = none) ∧ H' a = some (wsO CW dx e q') ∧ H' q' = some (.lst ((dropAll qs ((ofSrc reg s ls).take i)).map V.int)) ∧ H' e = some (.dK (entKV (dropAll ls ((ofSrc reg s ls).take i)) ad)) ∧ (∀ b o, b ≠ a → b ≠ e → H1 b = some o → H' b = some o)) ⟨u, v, q, rfl, .inl rfl, s1 _ _ ha, s1 _ _ hq, s1 _ _ he, fun b o _ _ z => z⟩ (fun i σ' H' _ ⟨_, _, _, _, _, _, _, _, kp⟩ => SqL.of (kp _ _ nDa nDe hD)) ?_ ?_
      · rintro i x σ' H2 H3 hi ⟨u, v, q', rfl, hq', ha2, hq2, he2, kp⟩ ⟨rfl, ex⟩
        rw [List.getElem?_map] at ex
        obtain ⟨l, el, rfl⟩ := Option.map_eq_some_iff.mp ex
        have hl : l ∈ ofSrc reg s ls := List.mem_of_getElem? el
        have lm : l ∈ dropAll ls ((ofSrc reg s ls).take i) := mem_dropAll.mpr ⟨(List.mem_filter.mp hl).1, fun z => by
          obtain ⟨j, hj, e3⟩ := List.mem_take_iff_getElem.mp z
          have := nodup_idx ndD el (show (ofSrc reg s ls)[j]? = some l by rw [List.getElem?_eq_getElem (by omega), e3])
          omega⟩
        walk_at "wn"
        refine ⟨_, rfl, a, dx, _, rfl, ha2, rfl, ?_⟩
        walk_at "wn"
        refine ⟨a, dx, e, q', l, _, _, ad, rfl, ha2, hq2, he2, lm, Nat.le_trans (dropAll_len _ _) (by omega), fun H4 q4 n4 ha4 hq4 he4 kp4 => ?_⟩
        have et : (ofSrc reg s ls).take (i + 1) = (ofSrc reg s ls).take i ++ [l] := by rw [List.take_add_one, el]; rfl
        rw [et, dropAll_snoc, dropAll_snoc]
        refine ⟨_, _, q4, rfl, .inr ?_, ha4, hq4, he4, fun b o n1 n2 z => kp4 b o n1 n2 (kp b o n1 n2 z)⟩
        cases hz4 : H q4 with
        | none => rfl
        | some o =>
          by_cases c1 : q4 = a
          · rw [c1, ha2] at n4
            cases n4
          · by_cases c2 : q4 = e
            · rw [c2, he2] at n4
              cases n4
            · rw [kp q4 o c1 c2 (s1 _ _ hz4)] at n4
              cases n4
      · rintro σ' H2 ⟨u, v, q', rfl, hq', ha2, hq2, he2, kp⟩
        rw [List.length_map, List.take_length] at hq2 he2
        exact k H2 q' hq' ha2 hq2 he2 fun b o n1 n2 z => kp b o n1 n2 (s1 _ _ z)
end

/-! the end of a thing, any number of sets -/
structure Tidy (S : Sys) : Prop where
  sm : Small S
  nd : ∀ s ∈ S.sets, (S.ents s).Nodup
def gone (S : Sys) (t s : Int) : List Int := ofSrc (S.reg s) t (S.ents s)
def noSrc (S : Sys) (t : Int) : Sys := { S with srcs := without t S.srcs }
/-- the source t has left the sets D -/
def sdrops (S : Sys) (t : Int) (D : List Int) : Sys := { S with
  ents := fun s => if s ∈ D then dropAll (S.ents s) (gone S t s) else S.ents s
  que := fun s => if s ∈ D then dropAll (S.que s) (gone S t s) else S.que s }
def ended (S : Sys) (t : Int) : Sys := if t ∈ S.sets then { S with sets := without t S.sets } else sdrops (noSrc S t) t S.sets
section
variable {C : Cs} {H H' : Hp} {S : Sys} {ad dx : Cell → Addr}
/-- the source t leaves one more set -/
theorem At.sdrop {t s : Int} {D : List Int} {q' : Addr} (A : At C H (sdrops S t D) ad dx) (hs : s ∈ S.sets) (hD : s ∉ D) (n : q' = ad (.que s) ∨ H q' = none) (c1 : H' (ad (.ws s)) = some (wsO C.W (dx (.ws s)) (ad (.ent s)) q')) (c2 : H' q' = some (.lst ((dropAll (S.que s) (gone S t s)).map V.int)))
    (c3 : H' (ad (.ent s)) = some (.dK (entKV (dropAll (S.ents s) (gone S t s)) fun l => ad (.reg s l)))) (k : ∀ b o, b ≠ ad (.ws s) → b ≠ ad (.ent s) → H b = some o → H' b = some o) :
    At C H' (sdrops S t (D ++ [s])) (setA ad (.que s) q') dx ∧ Step H (sdrops S t D) ad H' (sdrops S t (D ++ [s])) (setA ad (.que s) q') := by
  have hw := A.at_ (.ws s) hs
  have he := A.at_ (.ent s) hs
  have nq1 : q' ≠ ad (.ws s) := fun z => by rw [z, c1] at c2; cases c2
  have nq2 : q' ≠ ad (.ent s) := fun z => by rw [z, c3] at c2; cases c2
  have hsD : s ∈ D ++ [s] := List.mem_append.mpr (.inr (List.mem_singleton.mpr rfl))
  have oth : ∀ j, j ≠ s → (j ∈ D ++ [s] ↔ j ∈ D) := fun j nj => by rw [List.mem_append, List.mem_singleton]; exact ⟨fun z => z.resolve_right nj, .inl⟩
  refine At.re3 [.ws s, .ent s, .que s] A (fun c lc => ?_) (fun c hc lc => ?_) (fun c hc lc => ?_) (fun c hc lc => ?_) (fun c hc c' hc' lc lc' z e => ?_) (fun b o nb e => ?_) (setA_ne (by intro z; cases z))
  · right
    cases c with
    | reg j l =>
      obtain ⟨l1, l2⟩ := lc
      refine ⟨l1, ?_⟩
      have l2 : l ∈ (if j ∈ D ++ [s] then dropAll (S.ents j) (gone S t j) else S.ents j) := l2
      show l ∈ (if j ∈ D then dropAll (S.ents j) (gone S t j) else S.ents j)
      by_cases nj : j = s
      · subst nj
        rw [if_pos hsD] at l2
        rw [if_neg hD]
        exact (mem_dropAll.mp l2).1
      · by_cases hj : j ∈ D
        · rw [if_pos ((oth j nj).mpr hj)] at l2
          rw [if_pos hj]
          exact l2
        · rw [if_neg (fun z => hj ((oth j nj).mp z))] at l2
          rw [if_neg hj]
          exact l2
    | _ => exact lc
  · simp only [List.mem_cons, List.not_mem_nil, or_false] at hc
    rcases hc with rfl | rfl | rfl
    · rw [setA_ne (by intro z; cases z), c1]
      show _ = some (wsO C.W (dx (.ws s)) (setA ad (.que s) q' (.ent s)) (setA ad (.que s) q' (.que s)))
      rw [setA_same, setA_ne (by intro z; cases z)]
    · rw [setA_ne (by intro z; cases z), c3]
      show _ = some (HO.dK (entKV (if s ∈ D ++ [s] then dropAll (S.ents s) (gone S t s) else S.ents s) fun l => setA ad (.que s) q' (.reg s l)))
      rw [if_pos hsD, show (fun l => setA ad (.que s) q' (.reg s l)) = fun l => ad (.reg s l) from funext fun l => setA_ne (by intro z; cases z)]
    · rw [setA_same, c2]
      show _ = some (HO.lst ((if s ∈ D ++ [s] then dropAll (S.que s) (gone S t s) else S.que s).map V.int))
      rw [if_pos hsD]
  · have nq : c ≠ .que s := fun z => hc (by rw [z]; simp)
    refine ⟨setA_ne nq, ?_⟩
    have rgf : ∀ j, (fun l => setA ad (.que s) q' (.reg j l)) = fun l => ad (.reg j l) := fun j => funext fun l => setA_ne (by intro z; cases z)
    cases c with
    | ws j =>
      have nj : j ≠ s := fun z => hc (by rw [z]; simp)
      show wsO C.W (dx (.ws j)) (setA ad (.que s) q' (.ent j)) (setA ad (.que s) q' (.que j)) = _
      rw [setA_ne (by intro z; cases z), setA_ne (fun z => nj (by cases z; rfl))]
      rfl
    | ent j =>
      have nj : j ≠ s := fun z => hc (by rw [z]; simp)
      show HO.dK (entKV (if j ∈ D ++ [s] then dropAll (S.ents j) (gone S t j) else S.ents j) fun l => setA ad (.que s) q' (.reg j l)) = HO.dK (entKV (if j ∈ D then dropAll (S.ents j) (gone S t j) else S.ents j) fun l => ad (.reg j l))
      rw [rgf j]
      by_cases hj : j ∈ D
      · rw [if_pos hj, if_pos ((oth j nj).mpr hj)]
      · rw [if_neg hj, if_neg (fun z => hj ((oth j nj).mp z))]
    | que j =>
      have nj : j ≠ s := fun z => hc (by rw [z]; simp)
      show HO.lst ((if j ∈ D ++ [s] then dropAll (S.que j) (gone S t j) else S.que j).map V.int) = HO.lst ((if j ∈ D then dropAll (S.que j) (gone S t j) else S.que j).map V.int)
      by_cases hj : j ∈ D
      · rw [if_pos hj, if_pos ((oth j nj).mpr hj)]
      · rw [if_neg hj, if_neg (fun z => hj ((oth j nj).mp z))]
    | _ => rfl
  · simp only [List.mem_cons, List.not_mem_nil, or_false] at hc
    rcases hc with rfl | rfl | rfl
    · exact .inl ⟨setA_ne (by intro z; cases z), hs⟩
    · exact .inl ⟨setA_ne (by intro z; cases z), hs⟩
    · rw [setA_same]
      exact n.imp (fun z => ⟨z, hs⟩) id
  · simp only [List.mem_cons, List.not_mem_nil, or_false] at hc hc'
    rcases hc with rfl | rfl | rfl
    · rw [setA_ne (by intro z; cases z), hw] at z
      cases z
    · rw [setA_ne (by intro z; cases z), he] at z
      cases z
    · rcases hc' with rfl | rfl | rfl
      · rw [setA_same, setA_ne (by intro z; cases z)] at e
        exact absurd e nq1
      · rw [setA_same, setA_ne (by intro z; cases z)] at e
        exact absurd e nq2
      · rfl
  · exact k b o (nb (.ws s) (by simp) hs) (nb (.ent s) (by simp) hs) e
end
section
variable {P : Program} {w : World} {K : PySem.W.Frag} {mg : Str → Option Value} {base : Heap} {C : Cs}
def spEndThing (C : Cs) : Sp := fun vs H Q _ => ∃ t : Int, OnSys C vs H [.int t] fun S ad dx => (t ∉ S.sets → t ∈ S.srcs) ∧ Tidy S ∧ ∀ H' ad', At C H' (ended S t) ad' dx → Step H S ad H' (ended S t) ad' → (∀ q, ad' (.tab q) = ad (.tab q)) → ad' .tabD = ad .tabD → Q .non H'
theorem scEndThing : FnScope ["self", "thing", "waiting"] ["self", "thing"] (defScope sEndThing) := ⟨rfl, rfl, rfl, by decide +kernel, rfl, by decide +kernel, by decide +kernel⟩
theorem okEndThing {f fD : Addr} {fd fdD : FuncData} (F : Fun K "end_thing" "System.end_thing" sEndThing f fd) (T : ClsF K C.S sysF) (TW : Cls K C.W) (GD : MO P w K mg base 2 C.W "drop_source" ["self", "source"] (spDropSource C.W C.R) fD fdD) :
    FnOk P w K mg base CX0 3 f fd ["self", "thing"] (spEndThing C) := by
  refine F.ok scEndThing (fun vs H Q E h => ?_) (fun cdv A outer s H vs Q E hr h => ?_)
  · obtain ⟨_, _, _, _, rfl, _⟩ := h
    rfl
  · obtain ⟨t, S, ad, dx, rfl, A0, hsrc, O, k⟩ := h
    have hu := hu_of hr
    refine ⟨_, pss_cons (ps_if (pt_cmp (pc_din hu (pv 1) (pe_fld (pv 0) rfl)) rfl) (pss_cons (ps_ddel (pe_fld (pv 0) rfl) (pv 1)) (pss_one ps_retN)) pss_nil)
      (pss_cons (ps_ddel (pe_fld (pv 0) rfl) (pv 1))
      (pss_one (ps_lock (ps_for PassesOwn.never rfl (pi_values (pe_fld (pv 0) rfl)) (pg_name (i := 2) scEndThing.nd rfl (Or.inl rfl)) (pss_one (ps_expr (pe_meth (pv 2) TW GD.m GD.g hr GD.b .nil pass0 (pa_cons (pv 1) pa_nil)))))))), ?_⟩
    have hb := A0.at_ .box trivial
    have hD : H (ad .setD) = some (.dK (entKV S.sets fun s => ad (.ws s))) := A0.at_ .setD trivial
    have hR : H (ad .srcD) = some (.dK (entKV S.srcs fun t => ad (.srcT t))) := A0.at_ .srcD trivial
    have nbD : ad .box ≠ ad .setD := A0.ne (c := .box) (c' := .setD) trivial trivial (by intro z; cases z)
    refine ⟨_, rfl, _, rfl, ad .box, C.S, dx .box, _, _, rfl, hb, T.cl, T.no _ (by decide), rfl, ?_⟩
    refine ⟨ad .setD, _, rfl, DGet.k (k := Sum.inl t) hD, ?_⟩
    rw [ent_val]
    by_cases ht : t ∈ S.sets
    · rw [if_pos ht]
      refine ⟨_, rfl, ?_⟩
      show if true = true then _ else _
      refine iteT ?_
      refine ⟨_, rfl, ad .box, C.S, dx .box, _, _, rfl, hb, T.cl, T.no _ (by decide), rfl, ?_⟩
      refine ⟨_, rfl, ad .setD, _, Sum.inl t, rfl, hD, rfl, by rw [ent_val, if_pos ht]; rfl, ?_⟩
      rw [ent_drop]
      have ee : ended S t = { S with sets := without t S.sets } := if_pos ht
      refine (fun z : At C _ _ ad dx ∧ Step _ _ _ _ _ ad => k _ ad z.1 z.2 (fun _ => rfl) rfl) ?_
      rw [ee]
      refine At.re2 [.setD] A0 (fun c l => ?_) (fun c hc => ?_) (fun c hc => ?_) (fun c hc l => ?_) (fun b o n e => ?_)
      · cases c with
        | ws s => exact (mem_without.mp l).1
        | ent s => exact (mem_without.mp l).1
        | que s => exact (mem_without.mp l).1
        | reg s j => exact ⟨(mem_without.mp l.1).1, l.2⟩
        | _ => exact l
      · rw [List.mem_singleton.mp hc]
        exact trivial
      · rw [List.mem_singleton.mp hc, upd_same]
        rfl
      · cases c with
        | setD => exact absurd List.mem_cons_self hc
        | _ => rfl
      · rw [upd_ne (n .setD (by simp))]
        exact e
    · rw [if_neg ht]
      refine ⟨_, rfl, ?_⟩
      show if false = true then _ else _
      refine iteF ?_
      have hts := hsrc ht
      refine ⟨_, rfl, ad .box, C.S, dx .box, _, _, rfl, hb, T.cl, T.no _ (by decide), rfl, ?_⟩
      refine ⟨_, rfl, ad .srcD, _, Sum.inl t, rfl, hR, rfl, by rw [ent_val, if_pos hts]; rfl, ?_⟩
      rw [ent_drop]
      have ee : ended S t = sdrops (noSrc S t) t S.sets := if_neg ht
      rw [ee] at k
      obtain ⟨A1, st1⟩ : At C (upd H (ad .srcD) (.dK (entKV (S.srcs.filter fun x => decide (x ≠ t)) fun t => ad (.srcT t)))) (noSrc S t) ad dx ∧ Step H S ad (upd H (ad .srcD) (.dK (entKV (S.srcs.filter fun x => decide (x ≠ t)) fun t => ad (.srcT t)))) (noSrc S t) ad := by
        refine At.re2 [.srcD] A0 (fun c l => ?_) (fun c hc => ?_) (fun c hc => ?_) (fun c hc l => ?_) (fun b o n e => ?_)
        · cases c with
          | srcT s => exact (mem_without.mp l).1
          | _ => exact l
        · rw [List.mem_singleton.mp hc]
          exact trivial
        · rw [List.mem_singleton.mp hc, upd_same]
          rfl
        · cases c with
          | srcD => exact absurd List.mem_cons_self hc
          | _ => rfl
        · rw [upd_ne (n .srcD (by simp))]
          exact e
      have O1 : Tidy (noSrc S t) := ⟨⟨O.sm.que, O.sm.ents, Nat.le_trans (without_len t S.srcs) O.sm.srcs, O.sm.sets, O.sm.nd⟩, O.nd⟩
      generalize upd H (ad .srcD) (.dK (entKV (S.srcs.filter fun x => decide (x ≠ t)) fun t => ad (.srcT t))) = H1 at A1 st1
      have hsets : (noSrc S t).sets = S.sets := rfl
      rw [← hsets] at k
      generalize noSrc S t = S1 at A1 st1 O1 k
      have hb1 := A1.at_ .box trivial
      have hD1 : H1 (ad .setD) = some (.dK (entKV S1.sets fun s => ad (.ws s))) := A1.at_ .setD trivial
      refine ⟨ad .setD, _, hD1, trivial, fun od => ?_⟩
      refine ⟨_, rfl, ad .box, C.S, dx .box, _, _, rfl, by rw [upd_ne nbD]; exact hb1, T.cl, T.no _ (by decide), rfl, ?_⟩
      refine ⟨ad .setD, od, _, rfl, upd_same, ?_⟩
      have back : ∀ {H2 : Hp} {u o : HO}, H2 (ad .setD) = some o → upd (upd H2 (ad .setD) u) (ad .setD) o = H2 := fun {H2 u o} e => funext fun b => by
        by_cases z : b = ad .setD
        · rw [z, upd_same, e]
        · rw [upd_ne z, upd_ne z]
      refine for_it walk_values (fun i σ' H2 => ∃ (u : Option V) (ad' : Cell → Addr), σ' = [some (.ref (ad .box)), some (.int t), u] ∧ H2 (ad .setD) = some (.frz od (.dK (entKV S1.sets fun s => ad (.ws s)))) ∧ (∀ c, (∀ j, c ≠ .que j) → ad' c = ad c) ∧
        At C (upd H2 (ad .setD) (.dK (entKV S1.sets fun s => ad (.ws s)))) (sdrops S1 t (S1.sets.take i)) ad' dx ∧ Step H1 S1 ad (upd H2 (ad .setD) (.dK (entKV S1.sets fun s => ad (.ws s)))) (sdrops S1 t (S1.sets.take i)) ad') ?_ (fun i σ' H2 _ h => ?_) ?_ ?_
      · refine ⟨none, ad, rfl, upd_same, fun c _ => rfl, ?_⟩
        rw [back hD1]
        have e0 : sdrops S1 t (S1.sets.take 0) = S1 := by
          rw [List.take_zero]
          show ({ S1 with ents := _, que := _ } : Sys) = S1
          have e1 : (fun s => if s ∈ ([] : List Int) then dropAll (S1.ents s) (gone S1 t s) else S1.ents s) = S1.ents := funext fun s => if_neg List.not_mem_nil
          have e2 : (fun s => if s ∈ ([] : List Int) then dropAll (S1.que s) (gone S1 t s) else S1.que s) = S1.que := funext fun s => if_neg List.not_mem_nil
          rw [e1, e2]
        rw [e0]
        exact ⟨A1, Step.refl⟩
      · obtain ⟨_, _, _, h, _⟩ := h
        exact h
      · rintro i x σ' H2 H3 hi ⟨u, ad', rfl, hF, had, A2, st2⟩ ⟨rfl, kx, ex⟩
        have hi' : i < S1.sets.length := by unfold entKV at hi; rwa [List.length_map] at hi
        have e2 : S1.sets[i]? = some S1.sets[i] := List.getElem?_eq_getElem hi'
        have hs : S1.sets[i] ∈ S1.sets := List.getElem_mem hi'
        have et : S1.sets.take (i + 1) = S1.sets.take i ++ [S1.sets[i]] := by rw [List.take_add_one, e2]; rfl
        have hnD : S1.sets[i] ∉ S1.sets.take i := fun z => by
          obtain ⟨j, hj, e⟩ := List.mem_take_iff_getElem.mp z
          have := nodup_idx O1.sm.nd e2 (show S1.sets[j]? = some S1.sets[i] by rw [List.getElem?_eq_getElem (by omega), e])
          omega
        unfold entKV at ex
        rw [List.getElem?_map, e2] at ex
        cases ex
        rw [et]
        generalize S1.sets[i] = s0 at e2 hs hnD
        have a1 : ad' (.ws s0) = ad (.ws s0) := had _ fun j z => by cases z
        have a2 : ad' (.ent s0) = ad (.ent s0) := had _ fun j z => by cases z
        have a3 : ad' .setD = ad .setD := had _ fun j z => by cases z
        have a4 : ∀ l, ad' (.reg s0 l) = ad (.reg s0 l) := fun l => had _ fun j z => by cases z
        have nD : ∀ c, c ≠ .setD → live (sdrops S1 t (S1.sets.take i)) c → ad' c ≠ ad .setD := fun c nc lc z => A2.ne lc (c' := .setD) trivial nc (z.trans a3.symm)
        have eH : ∀ b, b ≠ ad .setD → upd H3 (ad .setD) (.dK (entKV S1.sets fun s => ad (.ws s))) b = H3 b := fun b n => upd_ne n
        have es : (sdrops S1 t (S1.sets.take i)).ents s0 = S1.ents s0 := if_neg hnD
        have eq : (sdrops S1 t (S1.sets.take i)).que s0 = S1.que s0 := if_neg hnD
        have hw : H3 (ad' (.ws s0)) = some (wsO C.W (dx (.ws s0)) (ad' (.ent s0)) (ad' (.que s0))) := (eH _ (nD (.ws s0) (by intro z; cases z) hs)).symm.trans (A2.at_ (.ws s0) hs)
        have he : H3 (ad' (.ent s0)) = some (.dK (entKV (S1.ents s0) fun l => ad' (.reg s0 l))) := by
          have e := (eH _ (nD (.ent s0) (by intro z; cases z) hs)).symm.trans (A2.at_ (.ent s0) hs)
          rw [e]
          show some (HO.dK (entKV ((sdrops S1 t (S1.sets.take i)).ents s0) fun l => ad' (.reg s0 l))) = _
          rw [es]
        have hq : H3 (ad' (.que s0)) = some (.lst ((S1.que s0).map V.int)) := by
          have e := (eH _ (nD (.que s0) (by intro z; cases z) hs)).symm.trans (A2.at_ (.que s0) hs)
          rw [e]
          show some (HO.lst (((sdrops S1 t (S1.sets.take i)).que s0).map V.int)) = _
          rw [eq]
        walk_at "wn"
        refine ⟨_, rfl, ad (.ws s0), dx (.ws s0), _, rfl, a1 ▸ hw, rfl, ?_⟩
        walk_at "wn"
        refine ⟨ad' (.ws s0), dx (.ws s0), ad' (.ent s0), ad' (.que s0), t, S1.que s0, S1.ents s0, fun l => ad' (.reg s0 l), S1.reg s0, by rw [a1]; rfl, hw, hq, he, fun l hl => ⟨dx (.reg s0 l), ?_⟩, O1.nd s0 hs, Nat.le_trans (O1.sm.que s0 hs) (by decide), Nat.le_trans (O1.sm.ents s0 hs) (by decide), fun H' q' c1 c2 c3 c4 c5 => ?_⟩
        · have lv : live (sdrops S1 t (S1.sets.take i)) (.reg s0 l) := ⟨hs, by rw [es]; exact hl⟩
          exact (eH _ (nD (.reg s0 l) (by intro z; cases z) lv)).symm.trans (A2.at_ (.reg s0 l) lv)
        · have hF' : H' (ad .setD) = some (.frz od (.dK (entKV S1.sets fun s => ad (.ws s)))) := c5 _ _ (Ne.symm (nD (.ws s0) (by intro z; cases z) hs)) (Ne.symm (nD (.ent s0) (by intro z; cases z) hs)) hF
          have nqD : q' ≠ ad .setD := fun z => by rw [z, hF'] at c3; cases c3
          have r := At.sdrop (H' := upd H' (ad .setD) (.dK (entKV S1.sets fun s => ad (.ws s)))) (q' := q') A2 hs hnD (c1.imp id fun z => by rw [eH _ nqD]; exact z) (by rw [upd_ne (nD (.ws s0) (by intro z; cases z) hs)]; exact c2) (by rw [upd_ne nqD]; exact c3) (by rw [upd_ne (nD (.ent s0) (by intro z; cases z) hs)]; exact c4) (fun b o n1 n2 e => by
            by_cases hb2 : b = ad .setD
            · rw [hb2, upd_same] at e ⊢
              exact e
            · rw [upd_ne hb2] at e ⊢
              exact c5 _ _ n1 n2 e)
          exact ⟨_, setA ad' (.que s0) q', rfl, hF', fun c hc => (setA_ne (hc s0)).trans (had c hc), r.1, st2.trans r.2⟩
      · rintro σ' H2 ⟨u, ad', rfl, hF, had, A2, st2⟩
        have el : S1.sets.take (entKV S1.sets fun s => ad (.ws s)).length = S1.sets := by unfold entKV; rw [List.length_map, List.take_length]
        rw [el] at A2 st2
        exact ⟨hF, k _ ad' A2 (st1.trans st2) (fun q => had _ fun j z => by cases z) (had _ fun j z => by cases z)⟩
end

/-! own errors over any built-in base -/
structure BX (x : Str) (B newId initId : String) (tl : List Value) : Prop where
  bf : ExcBaseFacts B newId initId (.type B :: tl)
  sf : StoreFacts B (.type B :: tl) "object.__setattr__" "object"
  ty : typeOf (.type B) = pure (.type "type")
  st : Manifest.isStub B = false
  bo : bootBuiltins x = some (.type B)
  nn : x ≠ "__name__"
  nd : (x == ("__debug__" : Str)) = false
  hi : PySem.W.handedIn (.builtin initId) = true
theorem bxRuntime : BX "RuntimeError" "RuntimeError" "RuntimeError.__new__" "RuntimeError.__init__" [.type "Exception", .type "BaseException", .type "object"] := ⟨F.excBase_RuntimeError, F.store_RuntimeError, by kernel_rfl, by decide +kernel, PyProof.Rows.Boot.«RuntimeError», by decide, by decide, by decide +kernel⟩
theorem bxLookup : BX "LookupError" "LookupError" "LookupError.__new__" "LookupError.__init__" [.type "Exception", .type "BaseException", .type "object"] := ⟨F.excBase_LookupError, F.store_LookupError, by kernel_rfl, by decide +kernel, PyProof.Rows.Boot.«LookupError», by decide, by decide, by decide +kernel⟩
theorem bxOverflow : BX "OverflowError" "OverflowError" "OverflowError.__new__" "OverflowError.__init__" [.type "ArithmeticError", .type "Exception", .type "BaseException", .type "object"] := ⟨F.excBase_OverflowError, F.store_OverflowError, by kernel_rfl, by decide +kernel, PyProof.Rows.Boot.«OverflowError», by decide, by decide, by decide +kernel⟩
theorem bxType : BX "TypeError" "TypeError" "TypeError.__new__" "TypeError.__init__" [.type "Exception", .type "BaseException", .type "object"] := ⟨F.excBase_TypeError, F.store_TypeError, by kernel_rfl, by decide +kernel, PyProof.Rows.Boot.«TypeError», by decide, by decide, by decide +kernel⟩
theorem bxValue : BX "ValueError" "ValueError" "ValueError.__new__" "ValueError.__init__" [.type "Exception", .type "BaseException", .type "object"] := ⟨F.excBase_ValueError, F.store_ValueError, by kernel_rfl, by decide +kernel, PyProof.Rows.Boot.«ValueError», by decide, by decide, by decide +kernel⟩
/-- a class of the program's straight over the base with this mro -/
structure OxB (K : PySem.W.Frag) (C : Addr) (newId : String) (bm : List Value) : Prop where
  cls : ∃ nm q N bs sn sub ab col dd k0 k1 k2 k3 k5, K.lookup C = some (excClassObj nm q C N bs bm true sn sub ab col dd k0 k1 k2 k3 k5 newId)
  sa : PySem.W.findIn K (.ref C) "__setattr__" = some (some (.builtin "object.__setattr__"))
  exC : PySem.W.subIn K (.ref C) (.type "BaseException") = some true
  tyC : PySem.W.typeIn K (.ref C) = some (.type "type")
  kC : PySem.W.keepIn K (.ref C) = true
namespace OxB
variable {K : PySem.W.Frag} {C : Addr} {newId B : String} {tl : List Value}
theorem data (T : OxB K C newId (.type B :: tl)) : ∃ cd : ClassData, PySem.W.clsIn K C = some cd ∧ cd.mro = .ref C :: .type B :: tl ∧ cd.hasDict = true := by
  obtain ⟨nm, q, N, bs, sn, sub, ab, col, dd, k0, k1, k2, k3, k5, hC⟩ := T.cls
  refine ⟨{ name := nm, bases := bs, mro := .ref C :: .type B :: tl, ns := N, qualname := q, hasDict := true, slotNames := sn, subclasses := sub, abstract := ab, collection := col, hasDel := false }, ?_, rfl, rfl⟩
  unfold PySem.W.clsIn
  rw [hC]
theorem over (T : OxB K C newId (.type B :: tl)) : PySem.W.excOver K C (.type B :: tl) = true := by
  obtain ⟨cd, h1, h2, _⟩ := T.data
  unfold PySem.W.excOver
  rw [h1]
  show (match cd.mro with | .ref C' :: bm => C' == C && PySem.W.excTail (.type B :: tl) bm | _ => false) = true
  rw [h2]
  have e : PySem.W.excTail (.type B :: tl) (.type B :: tl) = true := by
    unfold PySem.W.excTail
    exact beq_self_eq_true _
  show (C == C && PySem.W.excTail (.type B :: tl) (.type B :: tl)) = true
  rw [e, beq_self_eq_true]
  rfl
end OxB
section
open Builtin Builtin.ObjectAttr
/-- the first field of an error that has no dict yet -/
theorem oxb_first {prog : Program} {w : World} {A : Around} {R : Result → Shared → Prop} {hp : Heap} {g : Array GenState} {d : Drawn} {t : Nat} {os : OsState} {K : PySem.W.Frag} {C x : Addr} {newId B : String} {tl : List Value} {name : Str} {tk : Tok} {v : Value} {fv : Array Value}
    (T : OxB K C newId (.type B :: tl)) (SF : StoreFacts B (.type B :: tl) "object.__setattr__" "object") (X : K.In hp) (hx : hp.get? x = some { cls := .ref C, data := .fields fv }) (no : PySem.W.findIn K (.ref C) name = some none)
    (q : ∀ h' tk' dx, (∀ b o, b ≠ x → hp.get? b = some o → h'.get? b = some o) → hp.objs.size ≤ dx → dx ≠ x → h'.get? x = some { cls := .ref C, dict := some dx, data := .fields fv } → h'.Ns1 dx (fun y => if y = name then some v else none) → R (.ok (.ret .none)) ⟨h', g, d, tk', os⟩) :
    codeAny (model prog w) A (.call (.builtin "object.__setattr__") ⟨[.ref x, .str name tk, v], []⟩) R ⟨hp, g, d, t, os⟩ := by
  have J : PySem.W.InstAt (⟨hp, g, d, t, os⟩ : Shared).heap x { cls := .ref C, data := .fields fv } C none := ⟨hx, rfl, rfl, trivial⟩
  have tkr : PySem.W.takerIn K C name = some none := by
    unfold PySem.W.takerIn
    rw [no]
    rfl
  obtain ⟨cd, hcd, _, hhd⟩ := T.data
  have away : x ≠ hp.objs.size := Nat.ne_of_lt (Heap.lt_size hx)
  refine PySem.W.osa_openX (s := ⟨hp, g, d, t, os⟩) SF X J T.over tkr fun onT => ?_
  show wpAny _ _ (storeInOwnDict (.ref x) (.ref C) (.str name tk) name v onT) _ _ _
  have ask : PySem.W.Looks (model prog w) hp (classData C) cd := PySem.W.looks_clsIn X hcd
  obtain ⟨nm, bs, mro, ns, qn, hd, sn, sb, ab, col, del⟩ := cd
  obtain rfl : hd = true := hhd
  unfold storeInOwnDict ownDictForStores
  repeat (first | with_reducible refine PySem.HandSPX.store_in_new ?_ ?_ | (with_reducible refine wpAny_loadPart_at hx ?_) | (with_reducible refine ask.at ?_) | wp_step)
  · exact (fun laid => ⟨_, #[], _, laid, rfl, fun e he => absurd he (by simp), fun _ => rfl⟩) ((Heap.get?_update_ne _ _ _ _ away.symm).trans (Heap.get?_push_at rfl rfl))
  · intro h' tk' hn same
    have h1 : (hp.push { cls := .type "dict", data := .dict #[] }).get? x = some { cls := .ref C, data := .fields fv } := Heap.get?_push_of_some _ hx
    refine q h' tk' hp.objs.size (fun b o nb eb => ?_) (Nat.le_refl _) away.symm ((same.2 x away).trans (Heap.get?_update_self _ h1 rfl)) hn
    rw [same.2 b (Nat.ne_of_lt (Heap.lt_size eb)), Heap.get?_update_ne _ _ _ _ nb]
    exact Heap.get?_push_of_some _ eb
end
section
variable {X : Cx} {pins : List (Addr × Obj)} {σ : L2.St} {H : Hp} {s : Shared} {a C : Addr} {f : Str} {y : V} {u : Value} {newId initId B : String} {tl : List Value} {A : Around}
theorem oxb_store {Q : Unit → Shared → Prop} {E : Value → Shared → Prop} (T : OxB X.K C newId (.type B :: tl)) (SF : StoreFacts B (.type B :: tl) "object.__setattr__" "object") (I : Inv X pins σ H s) (e : H a = some (exo a C none)) (no : PySem.W.findIn X.K (.ref C) f = some none) (ry : RelV y u)
    (k : ∀ dx s', H dx = none → dx ≠ a → Inv X pins σ (upd (upd H dx (exd dx [(f, y)])) a (exo a C (some dx))) s' → Q () s') : wpAny (model X.prog X.w) A (setAttr (.ref a) f u) Q E s := by
  obtain ⟨t1, ho⟩ := exo_at I.hok e
  obtain ⟨hp, g, d, t, os⟩ := s
  refine PySem.W.set_plain I.kIn (od := none) (ox := { cls := .ref C, dict := none, data := .fields #[.ref t1, .none, .none, .none, .bool false, .none] }) ⟨ho, rfl, rfl, trivial⟩ T.sa (oxb_first T SF I.kIn ho no fun h' tk' dx kp dn dne hx hn => ?_)
  have free : H dx = none := I.hok.fresh dn
  have apart : ∀ {b : Addr} {o : Obj}, hp.get? b = some o → b ≠ dx := fun {b o} z => Nat.ne_of_lt (Nat.lt_of_lt_of_le (Heap.lt_size z) dn)
  have other : ∀ {b : Addr}, H b = none → b ≠ a := fun {b} n z => by rw [z, e] at n; cases n
  refine k dx _ free dne (I.un (t' := tk') ⟨fun b o z n _ _ => kp b o (other n) z, fun b o z n _ _ => ⟨o.slots, kp b o (other n) z⟩, fun b o z n _ => ?_, fun b o z _ => ?_, fun b xs z => ?_, fun b o v z => ?_, fun b ps z => ⟨#[], ?_⟩⟩ fun b o z => ?_)
  · rw [upd_ne (other n), upd_ne (apart z)]
    exact n
  · by_cases hb : b = a
    · exact ⟨_, by rw [hb]; exact hx⟩
    · exact ⟨o, kp b o hb z⟩
  · rw [upd_ne (at_ne e z exo_tup), upd_ne (ne_of_none z free)]
    exact z
  · rw [upd_ne (at_ne e z exo_frz), upd_ne (ne_of_none z free)]
    exact z
  · rw [upd_ne (at_ne e z exo_tbl), upd_ne (ne_of_none z free), z]
    simp
  · by_cases hb : b = a
    · subst hb
      rw [upd_same] at z
      cases z
      exact exo_ok hx
    rw [upd_ne hb] at z
    by_cases hd : b = dx
    · subst hd
      rw [upd_same] at z
      cases z
      exact exd_ok hn (relO_put (fs := []) ry fun g => True.intro)
    rw [upd_ne hd] at z
    refine (I.hok b o z).stay (fun c v hc y1 => kp c v ?_ y1) (fun c hc => ?_) (fun c xs hc => ?_)
    · rcases hc with hc | hc
      · exact hc ▸ hb
      · exact at_ne e hc exo_own
    · rw [upd_ne (at_ne e hc exo_own), upd_ne (ne_of_none hc free)]
      exact hc
    · rw [upd_ne (at_ne e hc exo_tup), upd_ne (ne_of_none hc free)]
      exact hc
theorem oxb_init {us : List Value} {Q : Value → Shared → Prop} {E : Value → Shared → Prop} (T : OxB X.K C newId (.type B :: tl)) (BF : ExcBaseFacts B newId initId (.type B :: tl)) (I : Inv X pins σ H s) (e : H a = some (exo a C none)) (hl : us.length ≤ sizeLine) (k : ∀ s', Inv X pins σ H s' → Q .none s') :
    wpAny (model X.prog X.w) A (call (.builtin initId) (.ref a :: us)) Q E s := by
  obtain ⟨nm, q, N, bs, sn, sub, ab, col, dd, k0, k1, k2, k3, k5, hC⟩ := T.cls
  obtain ⟨t1, ho⟩ := exo_at I.hok e
  obtain ⟨hp, g, d, t, os⟩ := s
  refine wpAny_call (PySem.HandSPX.init_base BF (fun _ => rfl) (I.kIn _ _ hC) ho hl fun h' t2 kp hx => k _ ?_)
  have J := I.write (t' := t) (x := a) (e := a) (o := exo a C none) (by rw [e]; exact True.intro) (.inl rfl) kp ⟨_, hx⟩ (exo_ok hx)
  have eu : upd H a (exo a C none) = H := funext fun b => by
    by_cases hb : b = a
    · rw [hb, upd_same, e]
    · exact upd_ne hb
  exact eu ▸ J
/-- B.__init__(self, ..) of a base B -/
def tBI (K : PySem.W.Frag) (newId B : String) (tl : List Value) (ta : TA) : TE := fun σ H Q => ta σ H fun vs H1 => ∃ (a C : Addr) (ws : List V), vs = .ref a :: ws ∧ ws.length ≤ 1000 ∧ OxB K C newId (.type B :: tl) ∧ H1 a = some (exo a C none) ∧ Q .non H1
/-- self.f = e, the only field -/
def tOsB (K : PySem.W.Frag) (newId B : String) (tl : List Value) (f : Str) (to te : TE) : TS := fun D σ H => te σ H fun y H1 => to σ H1 fun x H2 => ∃ a C : Addr, x = .ref a ∧ OxB K C newId (.type B :: tl) ∧ PySem.W.findIn K (.ref C) f = some none ∧ H2 a = some (exo a C none) ∧
  ∀ dx, H2 dx = none → dx ≠ a → D.nx σ (upd (upd H2 dx (exd dx [(f, y)])) a (exo a C (some dx)))
variable {o e : Expr} {es : List Expr} {to te : TE} {ta : TA} {x : Str} {p p' p1 p2 pos : Pos}
theorem pe_binit {pl : Sem Bool} (Z : BX x B newId initId tl) (hg : Gl X x) (hm : X.mg x = none) (fI : PySem.W.findCls X.K (.type B) (.type "type") "__init__" = some (.val (.builtin initId))) (ha : PA X (e :: es) ta)
    (hc : eval (.Call (.Attribute (.Name x p1) "__init__" p2) (e :: es) [] pos) X.env = (eval (.Name x p1) X.env >>= fun ov => standAt p2.atName >>= fun _ => holding [ov] (getMethod ov "__init__" pl) >>= fun r => callWith pos r.1 r.2 (backTo pos (starEach (e :: es) X.env)) (backToKw pos (keywordEach [] X.env))) := by rfl)
    (st : starEach (e :: es) X.env = (false, eval e X.env) :: starEach es X.env := by rfl) (pn : (backTo pos (starEach es X.env)).any (·.1) = false := by rfl) : PE X (.Call (.Attribute (.Name x p1) "__init__" p2) (e :: es) [] pos) (tBI X.K newId B tl ta) := by
  refine ⟨fun pins s σ H Q I h => PySem.W.methodCall_KW (ld_blt I hg hm Z.bo ?_ Z.nn Z.nd) hc⟩
  obtain ⟨m, fr⟩ := I.fr
  refine PySem.W.method_type fr I.ok.mod.kin Z.ty Z.st fI Z.hi ?_
  show wpAny _ _ (callWith pos (Value.builtin initId) [] (backTo pos (starEach (e :: es) X.env)) []) _ _ _
  refine PyProof.Rows.callWith_method1 (thn (ha.run pos pins _ σ H _ (I.tok _) h) ?_) st pn
  rintro us s1 ⟨vs, H1, I1, r1, a, C, ws, rfl, hl, T, ea, q⟩
  cases r1 with
  | @cons _ u0 _ ur ra rw' =>
    obtain rfl : u0 = Value.ref a := ra
    exact oxb_init T Z.bf I1 ea (by rw [← Paired.length rw', sizeLine_eq]; omega) fun s' J => ⟨.non, H1, J, rfl, q⟩
theorem ps_osb (Z : BX x B newId initId tl) (ho : PE X o to) (he : PE X e te) (sw : swapsWith e (some (.Attribute o f p')) pos.line X.env = pure false := by rfl) : PS X (.Assign [.Attribute o f p'] e pos) (tOsB X.K newId B tl f to te) := by
  refine ⟨fun pins s σ H D I h => plainObj_wpAny_Assign_Attribute (thn (he.run pins s σ H _ I h) ?_) sw⟩
  rintro v s1 ⟨y, H1, I1, r1, q1⟩
  refine thn (ho.run pins s1 σ H1 _ I1 q1) ?_
  rintro u s2 ⟨x, H2, I2, r2, a, C, rfl, T, no, ea, q⟩
  obtain rfl : u = Value.ref a := r2
  exact oxb_store T Z.sf I2 ea no r1 fun dx s' n ne J => ⟨σ, _, J, q dx n ne⟩
theorem pmk_oxb {CX : CXT} {n : Str} {fI : Addr} {k : Nat} {fd : FuncData} {ps : List Str} {sp : Sp} {ds : List Value} {dvs : List V} (Z : BX x B newId initId tl) (T : OxB X.K C newId (.type B :: tl)) (iC : PySem.W.findIn X.K (.ref C) "__init__" = some (some (.ref fI)))
    (tI : PySem.W.typeIn X.K (.ref fI) = some (.type "function")) (G : FnOk X.prog X.w X.K X.mg X.base CX k fI fd ps sp) (hr : Room (k + 1) X.A) (hb : Binds X.K fd ps ds) (hd : Vals dvs ds) (hx : Passes CX X (fun _ _ _ => False)) (hg : Gl X n) (hm : X.mg n = some (.ref C)) (ha : PA X (e :: es) ta)
    (db : (n == ("__debug__" : Str)) = false := by decide) (st : starEach (e :: es) X.env = (false, eval e X.env) :: starEach es X.env := by rfl) (pn : (backTo pos (starEach es X.env)).any (·.1) = false := by rfl) : PMk X (.Call (.Name n p) (e :: es) [] pos) (tMkO C sp dvs ta) := by
  intro pins s σ H Q I h
  obtain ⟨nm, q, N, bs, sn, sub, ab, col, dd, k0, k1, k2, k3, k5, hC⟩ := T.cls
  refine wpAny_Call_Name_kw (ld_glob I hg hm (PySem.W.callWith_K (h₀ := X.base) I.ok.mod.kin T.kC (thn (ha.run pos pins s σ H _ I h) ?_) st pn) db)
  rintro us ⟨hp, g, dr, tk, os⟩ ⟨vs, H1, I1, r1, hz, q1⟩
  refine ⟨I1.kIn, ?_⟩
  show wpAny _ _ (call (.ref C) us) _ _ _
  have above : hp.objs.size ≤ hp.objs.size + 1 := Nat.le_succ _
  have want := q1 (hp.objs.size + 1) (I1.hok.fresh above)
  have kp : ∀ b o, hp.get? b = some o → ((hp.push (PySem.W.kdv_tup us)).push (PySem.HandSPX.excO C hp.objs.size)).get? b = some o := fun b o z => Heap.get?_push_of_some _ (Heap.get?_push_of_some _ z)
  have here : ((hp.push (PySem.W.kdv_tup us)).push (PySem.HandSPX.excO C hp.objs.size)).get? (hp.objs.size + 1) = some (PySem.HandSPX.excO C hp.objs.size) := by heap_get
  have I2 : Inv X pins σ (upd H1 (hp.objs.size + 1) (exo (hp.objs.size + 1) C none)) ⟨(hp.push (PySem.W.kdv_tup us)).push (PySem.HandSPX.excO C hp.objs.size), g, dr, tk, os⟩ := I1.laid (t' := tk) kp above (exo_ok here)
  have rs : Vals (V.ref (hp.objs.size + 1) :: (vs ++ dvs)) (Value.ref (hp.objs.size + 1) :: (us ++ ds)) := .cons rfl (r1.append hd)
  have many : (Value.ref (hp.objs.size + 1) :: us ++ ds).length = ps.length := (G.len _ _ _ _ want ▸ rs.length).symm
  have short : us.length ≤ sizeLine := by rw [← Paired.length r1, sizeLine_eq]; omega
  refine wpAny_call (PySem.HandSPX.call_own Z.bf (fun _ => rfl) (I1.kIn _ _ hC) (PySem.W.looks_findIn I1.kIn iC) (fun self => PySem.W.bind_fn I1.kIn self tI) short
    (codeAny_mono (G.run _ X.stack _ _ ⟨Value.ref (hp.objs.size + 1) :: us, []⟩ (Value.ref (hp.objs.size + 1) :: (us ++ ds)) _ _ (fun _ _ _ => False) (hr.make C us []) (I2.env0.make C us []) (hb _ (Value.ref (hp.objs.size + 1) :: us) I2.kIn many) rs want) fun r s' hq => ?_))
  rcases r with er | (_ | _ | _ | u)
  all_goals first | exact False.elim hq | exact hx pins σ _ _ er s' I2 hq | skip
  all_goals
    obtain ⟨v, H2, os2, bare2, un2, hok2, rv, ev, d, fs, ea, ed, hd1, q2⟩ := hq
    subst ev
    obtain ⟨h2, g2, d2, t2, os'⟩ := s'
    exact ⟨rv, mk_end (raises_own T.exC T.tyC) I1 above kp un2 hok2 os2 bare2 ea ed hd1 q2⟩
end

/-! several except clauses, each of which names what it caught -/
structure HdA where
  c : Value
  i : Nat
  ts : Addr → Value → Option Addr → TS
def wAll (K : PySem.W.Frag) (Wz : WX) (D : Ends) : List HdA → WX
  | [] => Wz
  | h :: r => wAs K h.c h.i h.ts (wAll K Wz D r) D
inductive HdsA (X : Cx) : List ExceptHandler → List HdA → Prop
  | nil : HdsA X [] []
  | cons {x n : Str} {c : Value} {i : Nat} {ts : Addr → Value → Option Addr → TS} {b1 : Stmt} {suite : List Stmt} {np pos1 : Pos} {hds : List ExceptHandler} {l : List HdA} (hi : X.N[i]? = some n) (hln : X.env.kindOf n = some .local) (hc : Names X x c)
      (hsu : ∀ (a : Addr) (oe : Obj) (cls : Value) (d : Option Addr) (pn : List (Addr × Obj)), Zc cls d oe → (∃ us, oe.data = .fields us) → PSs (X.suite a ((a, oe) :: pn)) (b1 :: suite) (ts a cls d)) (r : HdsA X hds l) : HdsA X (.ExceptHandler (some (.Name x np)) (some n) (b1 :: suite) pos1 :: hds) (⟨c, i, ts⟩ :: l)
section
variable {X : Cx} {body : List Stmt} {h1 : ExceptHandler} {hds : List ExceptHandler} {l : List HdA} {pos : Pos} {tb : WX → TS} {Wz : WX}
end

set_option maxHeartbeats 9000000
/-! {x!r} where x is any flat object: some bounded text, whatever repr is under way -/
section
open PySem.Sem
theorem lst_head {M : Model} {A : Around} {E : Value → Shared → Prop} {s : Shared} {Q : Fin → Shared → Prop} {a : Addr} {o : Obj} {x : Value} {l : List Value} {n : Nat} (e1 : s.heap.get? a = some o) (e2 : o.data = .seq (x :: l).toArray n)
    (k1 : ∀ u tk, Q (.done (.ret (.str "[...]" u))) { s with toks := tk }) (k2 : wpAny M A (do again (.builtin "list.__repr__.loop" ⟨[.ref a, rawInt 0, ← newList [], rawInt 0], []⟩)) Q E s) : wpAny M A (Builtin.listReprAt 0 ⟨[.ref a], []⟩) Q E s := by
  have y1 : wpAny M A (do rule "list.__repr__.in-itself"; retStr "[...]") Q E s := wpAny_bind (wpAny_rule (wpAny_bind (wpAny_mkStr (wpAny_pure (k1 _ _)) (by decide +kernel))))
  intro Γ p hΓ
  have z1 := y1 Γ p hΓ
  have z2 := k2 Γ p hΓ
  unfold Builtin.listReprAt
  simp [slotArgs, Builtin.List.listItems, seqItems?, wp_load_of (h := e1), e2, PySem.stack]
  show wp M Γ (if (Γ.below.any _) = true then _ else _) _ _ p s
  split
  · exact z1
  · exact z2
end
section
variable {prog : Program} {w : World} {A : Around} {E : Value → Shared → Prop} {s : Shared}
theorem lst_any {Q : Value → Shared → Prop} {a : Addr} {oa : Obj} {x : Value} {l : List Value} {na : Nat} {ts : List Str} (hu : A.units < cLine) (hc : oa.cls = .type "list") (ha : s.heap.get? a = some oa) (hda : oa.data = .seq (x :: l).toArray na) (hT : ReprAll prog w (x :: l) ts) (hsz : (listText ts).length ≤ 9000)
    (h : ∀ (m : Str) h' u tk, m.length ≤ 9000 → (∀ b o, s.heap.get? b = some o → h'.get? b = some o) → Q (.str m u) { s with heap := h', toks := tk }) : wpAny (model prog w) A (pyReprObj (.ref a)) Q E s := by
  have big : 9000 ≤ sizeLine := by rw [sizeLine_eq]; decide
  have hlen : ts.length = (x :: l).toArray.size := by rw [hT.length_eq]; simp
  have hall : ∀ (i : Nat) (y : Value), (x :: l).toArray[i]? = some y → ∃ t, ts[i]? = some t ∧ ReprIs prog w y t := by
    have go : ∀ {vs : List Value} {us : List Str}, ReprAll prog w vs us → ∀ (i : Nat) (y : Value), vs[i]? = some y → ∃ t, us[i]? = some t ∧ ReprIs prog w y t := by
      intro vs us hv
      induction hv with
      | nil => intro i y e; simp at e
      | cons r _ ih =>
        intro i y e
        cases i with
        | zero =>
          cases e
          exact ⟨_, rfl, r⟩
        | succ i => exact ih i y e
    intro i y e
    exact go hT i y (by simpa using e)
  refine wpAny_pyReprObj_slot hu ⟨oa, ha, hc⟩ F.slot_list_repr.toG (wpAny_call (codeAny_call_builtin F.slot_list_repr.plain F.entry_list_repr (F.slot_list_repr.check _ _ _ _ _ _ _ _ ⟨oa, ha, hc⟩ (F.args_list_repr_1 _) ?_)))
  refine lst_head (A := A.in1) ha hda (fun u tk => ⟨_, _, rfl, h "[...]" s.heap u tk (by decide +kernel) fun _ _ e => e⟩) ?_
  refine wpAny_bind (m := newList []) (wpAny_newObj_type (wpAny_pure ⟨F.quiet_list_repr_loop _, ?_⟩))
  exact codeAny_list_repr_start (P := s.heap.objs.size) (Nat.ne_of_lt (Heap.lt_size ha)) hlen hall (Heap.get?_push_of_some _ ha) hda (Heap.get?_push_size _ rfl) (fun h' u tk hk => ⟨_, _, rfl, h _ h' u tk hsz fun b o e => hk b o (Nat.ne_of_lt (Heap.lt_size e)) (Heap.get?_push_of_some _ e)⟩) (by show 0 + (listText ts).length ≤ sizeLine; omega)
theorem tup_any {Q : Value → Shared → Prop} {a : Addr} {oa : Obj} {items : Array Value} {na : Nat} {ts : List Str} (hu : A.units < cLine) (hc : oa.cls = .type "tuple") (ha : s.heap.get? a = some oa) (hda : oa.data = .seq items na) (hT : ReprAll prog w items.toList ts) (hsz : (tupleText ts).length ≤ 8990)
    (h : ∀ (m : Str) u tk, m.length ≤ 9000 → Q (.str m u) { s with toks := tk }) : wpAny (model prog w) A (pyReprObj (.ref a)) Q E s := by
  have big : 9000 ≤ sizeLine := by rw [sizeLine_eq]; decide
  exact wpAny_pyReprObj_slot hu ⟨oa, ha, hc⟩ F.slot_tuple_repr (fmt_tuple_repr ha hc hda hT (by omega) fun m u tk hm => ⟨_, _, rfl, h m u tk (by omega)⟩)
end
/-- a flat object: what a number, a process, a limit may be in the place of one -/
inductive Flat (H : Hp) : V → Prop
  | non : Flat H .non
  | bl (b : Bool) : Flat H (.bl b)
  | int (i : Int) : i.natAbs.log2 < 1920 → Flat H (.int i)
  | str (y : Str) : y.length ≤ 100 → (y.cps.toList.all fun c => decide (c < 16 ^ 8)) = true → Flat H (.str y)
  | tup (a : Addr) (l : List Int) : l.length ≤ 3 → (∀ i ∈ l, i.natAbs.log2 < 1920) → H a = some (.tup (l.map V.int)) → Flat H (.ref a)
  | lst (a : Addr) (i : Int) (l : List Int) : l.length ≤ 2 → (∀ j ∈ i :: l, j.natAbs.log2 < 1920) → H a = some (.lst ((i :: l).map V.int)) → Flat H (.ref a)
theorem ReprAll.ints {prog : Program} {w : World} : ∀ {l : List Int} {its : List Value}, Vals (l.map V.int) its → (∀ i ∈ l, i.natAbs.log2 < 1920) → ReprAll prog w its (l.map fun i => (toString i : String))
  | [], _, r, _ => by
    cases r
    exact .nil
  | i :: l, _, r, h => by
    cases r with
    | cons r1 r2 =>
      obtain ⟨t, rfl⟩ := r1
      exact .cons (ReprIs.int t (h i List.mem_cons_self)) (ReprAll.ints r2 fun j hj => h j (List.mem_cons_of_mem _ hj))
theorem ints_len : ∀ (l : List Int), (∀ i ∈ l, i.natAbs.log2 < 1920) → ((l.map fun i => ((toString i : String) : Str)).map (·.length)).sum ≤ 2000 * l.length
  | [], _ => Nat.le_refl _
  | i :: l, h => by
    have e := int_text_length_le (k := 1920) (by decide) (h i List.mem_cons_self)
    have ih := ints_len l fun j hj => h j (List.mem_cons_of_mem _ hj)
    simp only [List.map_cons, List.sum_cons, List.length_cons]
    rw [PySem.ofString_length]
    omega
def tFmtO (te : TE) : TE := fun σ H Q => te σ H fun x H1 => Flat H1 x ∧ ∀ m : Str, m.length ≤ 9000 → Q (.str m) H1
theorem pe_fmtO {X : Cx} {e : Expr} {te : TE} {pos : Pos} {k : Nat} (hr : Room k X.A) (he : PE X e te) : PE X (.FormattedValue e 114 none pos) (tFmtO te) := by
  refine ⟨fun pins s σ H Q I h => wpAny_FormattedValue_repr (thn (he.run pins s σ H _ I h) fun v s1 hv => ?_)⟩
  obtain ⟨x, H1, I1, r1, fl, q⟩ := hv
  have hu : X.A.units < cLine := by have := hr.units; omega
  have big : 9000 ≤ sizeLine := by rw [sizeLine_eq]; decide
  have fin : ∀ {m : Str} {u : Tok} {s2 : Shared}, m.length ≤ 9000 → (∀ tk, Inv X pins σ H1 { s2 with toks := tk }) → Inv X pins σ H1 s2 → wpAny (model X.prog X.w) X.A (formatField (.str m u) Str.empty) (EP X pins σ Q) X.xe s2 := fun {m u s2} hm J1 J2 =>
    wpAny_formatField_str ⟨.str m, H1, J2, ⟨_, rfl⟩, q m hm⟩ ⟨.str m, H1, J1 _, ⟨_, rfl⟩, q m hm⟩ (by omega)
  cases fl with
  | non =>
    cases r1
    exact pyReprObj_none (fin (by decide +kernel) (fun tk => I1.tok _) (I1.tok _))
  | bl b =>
    cases r1
    exact pyReprObj_bool (fin (by cases b <;> decide +kernel) (fun tk => I1.tok _) (I1.tok _))
  | int i hi =>
    obtain ⟨t, rfl⟩ := r1
    have e := int_text_length_le (k := 1920) (by decide) hi
    exact pyReprObj_int hi (fin (by rw [PySem.ofString_length]; omega) (fun tk => I1.tok _) (I1.tok _))
  | str y hy h2 =>
    obtain ⟨t, rfl⟩ := r1
    have hl := StrLaws.reprText_len y fun c hc => of_decide_eq_true (List.all_eq_true.mp h2 c hc)
    exact pyReprObj_str (fin (by omega) (fun tk => I1.tok _) (I1.tok _)) (by omega)
  | tup a l hl hi ht =>
    cases r1
    obtain ⟨its, rv, ⟨o, ho, hc, n, hd⟩, _⟩ := I1.tuple (SqT.of ht)
    have ra := ReprAll.ints (prog := X.prog) (w := X.w) rv hi
    have e := tupleText_len_le (l.map fun i => ((toString i : String) : Str))
    have e2 := ints_len l hi
    rw [List.length_map] at e
    exact tup_any (ts := l.map fun i => ((toString i : String) : Str)) hu hc ho hd (by simpa using ra) (by omega) fun m u tk hm => fin hm (fun tk => I1.tok _) (I1.tok _)
  | lst a i l hl hi hs =>
    cases r1
    obtain ⟨its, rv, ⟨o, n, ho, hc, _, hd⟩, _⟩ := I1.list (SqL.of hs)
    have ra := ReprAll.ints (prog := X.prog) (w := X.w) rv hi
    have e := listText_len_le ((i :: l).map fun i => ((toString i : String) : Str))
    have e2 := ints_len (i :: l) hi
    rw [List.length_map, List.length_cons] at e
    rw [List.length_cons] at e2
    cases rv with
    | cons rv1 rv2 => exact lst_any hu hc ho hd ra (by omega) fun m h' u tk hm hk => fin hm (fun tk => I1.kept hk) (I1.kept hk)
theorem Flat.same {H H' : Hp} {v : V} (f : Flat H v) (s : Same H H') : Flat H' v := by
  cases f with
  | non => exact .non
  | bl b => exact .bl b
  | int i h => exact .int i h
  | str y h h2 => exact .str y h h2
  | tup a l h1 h2 h3 => exact .tup a l h1 h2 (s _ _ h3)
  | lst a i l h1 h2 h3 => exact .lst a i l h1 h2 (s _ _ h3)
/-- any object that is asked whether it is an integer -/
inductive Ob (H : Hp) : V → Prop
  | non : Ob H .non
  | bl (b : Bool) : Ob H (.bl b)
  | int (i : Int) : Ob H (.int i)
  | str (y : Str) : Ob H (.str y)
  | tup (a : Addr) (xs : List V) : H a = some (.tup xs) → Ob H (.ref a)
  | lst (a : Addr) (xs : List V) : H a = some (.lst xs) → Ob H (.ref a)
theorem Flat.ob {H : Hp} {v : V} (f : Flat H v) : Ob H v := by
  cases f with
  | non => exact .non
  | bl b => exact .bl b
  | int i h => exact .int i
  | str y h h2 => exact .str y
  | tup a l h1 h2 h3 => exact .tup a _ h3
  | lst a i l h1 h2 h3 => exact .lst a _ h3
def isI : V → Bool
  | .int _ => true
  | _ => false
def inB : V → Int → Int → Bool
  | .int i, a, b => decide (a ≤ i) && decide (i ≤ b)
  | _, _, _ => false

theorem passX {X : Cx} {E : XK} (tk : Takes X fun cls d _ H => E cls d H) : Passes (L2.CX X.prog X.w) X E := fun pins σ H s e s' I c => tk e s' (XE.of_call I (fun _ _ _ h => h) c)
abbrev exT : List Value := [.type "Exception", .type "BaseException", .type "object"]
/-! an error of the class at D whose only field, named f, is an int -/
structure ErrF (K : PySem.W.Frag) (mg : Str → Option Value) (nm : Str) (f : Str) (D fI : Addr) (fdI : FuncData) (newId : String) (bm : List Value) : Prop where
  gC : mg nm = some (.ref D)
  ox : OxB K D newId bm
  noN : PySem.W.findIn K (.ref D) f = some none
  iC : PySem.W.findIn K (.ref D) "__init__" = some (some (.ref fI))
  tI : PySem.W.typeIn K (.ref fI) = some (.type "function")
  bI : Binds K fdI ["self", f] []
  te : PySem.W.exmOne K (.ref D) (.ref D) = some true
  xf : XfC K D
section
variable {P : Program} {w : World} {K : PySem.W.Frag} {mg : Str → Option Value} {base : Heap} {C : Cs}
def spErrInit (D : Addr) (f : Str) : Sp := fun vs H Q _ => ∃ (a : Addr) (v : V), vs = [.ref a, v] ∧ Flat H v ∧ H a = some (exo a D none) ∧
  ∀ d, H d = none → d ≠ a → Q .non (upd (upd H d (exd d [(f, v)])) a (exo a D (some d)))
theorem scNoProcessInit : FnScope ["self", "process"] ["self", "process"] (defScope sNoProcessInit) := ⟨rfl, rfl, rfl, by decide +kernel, rfl, by decide +kernel, by decide +kernel⟩
abbrev NoProcessE (K : PySem.W.Frag) (mg : Str → Option Value) (D fI : Addr) (fdI : FuncData) : Prop := ErrF K mg "NoProcess" "process" D fI fdI "LookupError.__new__" (.type "LookupError" :: exT)
theorem okNoProcessInit {D fI : Addr} {fdI : FuncData} (F : Fun K "__init__" "NoProcess.__init__" sNoProcessInit fI fdI) (gB : mg "LookupError" = none) (fB : PySem.W.findCls K (.type "LookupError") (.type "type") "__init__" = some (.val (.builtin "LookupError.__init__"))) (T : NoProcessE K mg D fI fdI) : FnOk P w K mg base CX0 1 fI fdI ["self", "process"] (spErrInit D "process") := by
  refine F.ok scNoProcessInit (fun vs H Q E h => ?_) (fun cdv A outer s H vs Q E hr h => ?_)
  · obtain ⟨a, n, rfl, _⟩ := h
    rfl
  · obtain ⟨a, n, rfl, fl, ha, k⟩ := h
    refine ⟨_, pss_cons (ps_expr (pe_binit bxLookup (by rfl) gB fB (pa_cons (pv 0) (pa_cons (pe_joined (.cons pe_str (.cons (pe_fmtO hr (pv 1)) .nil))) pa_nil))))
      (pss_one (ps_osb (f := "process") bxLookup (pv 0) (pv 1))), ?_⟩
    walk_at "wn"
    show tCons _ _ _ _ _
    walk_at "wn"
    show tJs _ _ _ _ _
    have e6 : (((("no alive process " : String) : Str))).length = 17 := rfl
    refine ⟨"no alive process ", rfl, by decide, ?_⟩
    refine ⟨_, rfl, fl, fun m hm => ?_⟩
    refine ⟨m, rfl, ?_, ?_⟩
    · rw [strLen_append, strLen_append, sizeLine_eq, e6]
      show 0 + 17 + _ ≤ _
      omega
    refine ⟨a, D, [_], rfl, by show 1 ≤ 1000; decide, T.ox, ha, ?_⟩
    refine ⟨_, rfl, _, rfl, ?_⟩
    exact ⟨a, D, rfl, T.ox, T.noN, ha, fun dx h1 h2 => k dx h1 h2⟩
theorem scNotOpenInit : FnScope ["self", "number"] ["self", "number"] (defScope sNotOpenInit) := ⟨rfl, rfl, rfl, by decide +kernel, rfl, by decide +kernel, by decide +kernel⟩
abbrev NotOpenE (K : PySem.W.Frag) (mg : Str → Option Value) (D fI : Addr) (fdI : FuncData) : Prop := ErrF K mg "NotOpen" "number" D fI fdI "LookupError.__new__" (.type "LookupError" :: exT)
theorem okNotOpenInit {D fI : Addr} {fdI : FuncData} (F : Fun K "__init__" "NotOpen.__init__" sNotOpenInit fI fdI) (gB : mg "LookupError" = none) (fB : PySem.W.findCls K (.type "LookupError") (.type "type") "__init__" = some (.val (.builtin "LookupError.__init__"))) (T : NotOpenE K mg D fI fdI) : FnOk P w K mg base CX0 1 fI fdI ["self", "number"] (spErrInit D "number") := by
  refine F.ok scNotOpenInit (fun vs H Q E h => ?_) (fun cdv A outer s H vs Q E hr h => ?_)
  · obtain ⟨a, n, rfl, _⟩ := h
    rfl
  · obtain ⟨a, n, rfl, fl, ha, k⟩ := h
    refine ⟨_, pss_cons (ps_expr (pe_binit bxLookup (by rfl) gB fB (pa_cons (pv 0) (pa_cons (pe_joined (.cons pe_str (.cons (pe_fmtO hr (pv 1)) (.cons pe_str .nil)))) pa_nil))))
      (pss_one (ps_osb (f := "number") bxLookup (pv 0) (pv 1))), ?_⟩
    walk_at "wn"
    show tCons _ _ _ _ _
    walk_at "wn"
    show tJs _ _ _ _ _
    have e5 : (((" is not open" : String) : Str)).length = 12 := rfl
    have e6 : (((("number " : String) : Str))).length = 7 := rfl
    refine ⟨"number ", rfl, by decide, ?_⟩
    refine ⟨_, rfl, fl, fun m hm => ?_⟩
    refine ⟨m, rfl, ?_, ?_⟩
    · rw [strLen_append, strLen_append, sizeLine_eq, e6]
      show 0 + 7 + _ ≤ _
      omega
    refine ⟨" is not open", rfl, ?_, ?_⟩
    · rw [strLen_append, strLen_append, strLen_append, sizeLine_eq, e5, e6]
      show 0 + 7 + _ + _ ≤ _
      omega
    refine ⟨a, D, [_], rfl, by show 1 ≤ 1000; decide, T.ox, ha, ?_⟩
    refine ⟨_, rfl, _, rfl, ?_⟩
    exact ⟨a, D, rfl, T.ox, T.noN, ha, fun dx h1 h2 => k dx h1 h2⟩
theorem scNoNumberInit : FnScope ["self", "number"] ["self", "number"] (defScope sNoNumberInit) := ⟨rfl, rfl, rfl, by decide +kernel, rfl, by decide +kernel, by decide +kernel⟩
abbrev NoNumberE (K : PySem.W.Frag) (mg : Str → Option Value) (D fI : Addr) (fdI : FuncData) : Prop := ErrF K mg "NoNumber" "number" D fI fdI "LookupError.__new__" (.type "LookupError" :: exT)
theorem okNoNumberInit {D fI : Addr} {fdI : FuncData} (F : Fun K "__init__" "NoNumber.__init__" sNoNumberInit fI fdI) (gB : mg "LookupError" = none) (fB : PySem.W.findCls K (.type "LookupError") (.type "type") "__init__" = some (.val (.builtin "LookupError.__init__"))) (T : NoNumberE K mg D fI fdI) : FnOk P w K mg base CX0 1 fI fdI ["self", "number"] (spErrInit D "number") := by
  refine F.ok scNoNumberInit (fun vs H Q E h => ?_) (fun cdv A outer s H vs Q E hr h => ?_)
  · obtain ⟨a, n, rfl, _⟩ := h
    rfl
  · obtain ⟨a, n, rfl, fl, ha, k⟩ := h
    refine ⟨_, pss_cons (ps_expr (pe_binit bxLookup (by rfl) gB fB (pa_cons (pv 0) (pa_cons (pe_joined (.cons (pe_fmtO hr (pv 1)) (.cons pe_str .nil))) pa_nil))))
      (pss_one (ps_osb (f := "number") bxLookup (pv 0) (pv 1))), ?_⟩
    walk_at "wn"
    show tCons _ _ _ _ _
    walk_at "wn"
    show tJs _ _ _ _ _
    have e5 : (((" is no number of a table" : String) : Str)).length = 24 := rfl
    refine ⟨_, rfl, fl, fun m hm => ?_⟩
    refine ⟨m, rfl, ?_, ?_⟩
    · rw [strLen_append, sizeLine_eq]
      show 0 + _ ≤ _
      omega
    refine ⟨" is no number of a table", rfl, ?_, ?_⟩
    · rw [strLen_append, strLen_append, sizeLine_eq, e5]
      show 0 + _ + _ ≤ _
      omega
    refine ⟨a, D, [_], rfl, by show 1 ≤ 1000; decide, T.ox, ha, ?_⟩
    refine ⟨_, rfl, _, rfl, ?_⟩
    exact ⟨a, D, rfl, T.ox, T.noN, ha, fun dx h1 h2 => k dx h1 h2⟩
theorem scNotASourceInit : FnScope ["self", "number"] ["self", "number"] (defScope sNotASourceInit) := ⟨rfl, rfl, rfl, by decide +kernel, rfl, by decide +kernel, by decide +kernel⟩
abbrev NotASourceE (K : PySem.W.Frag) (mg : Str → Option Value) (D fI : Addr) (fdI : FuncData) : Prop := ErrF K mg "NotASource" "number" D fI fdI "TypeError.__new__" (.type "TypeError" :: exT)
theorem okNotASourceInit {D fI : Addr} {fdI : FuncData} (F : Fun K "__init__" "NotASource.__init__" sNotASourceInit fI fdI) (gB : mg "TypeError" = none) (fB : PySem.W.findCls K (.type "TypeError") (.type "type") "__init__" = some (.val (.builtin "TypeError.__init__"))) (T : NotASourceE K mg D fI fdI) : FnOk P w K mg base CX0 1 fI fdI ["self", "number"] (spErrInit D "number") := by
  refine F.ok scNotASourceInit (fun vs H Q E h => ?_) (fun cdv A outer s H vs Q E hr h => ?_)
  · obtain ⟨a, n, rfl, _⟩ := h
    rfl
  · obtain ⟨a, n, rfl, fl, ha, k⟩ := h
    refine ⟨_, pss_cons (ps_expr (pe_binit bxType (by rfl) gB fB (pa_cons (pv 0) (pa_cons (pe_joined (.cons pe_str (.cons (pe_fmtO hr (pv 1)) (.cons pe_str .nil)))) pa_nil))))
      (pss_one (ps_osb (f := "number") bxType (pv 0) (pv 1))), ?_⟩
    walk_at "wn"
    show tCons _ _ _ _ _
    walk_at "wn"
    show tJs _ _ _ _ _
    have e5 : (((" means no source" : String) : Str)).length = 16 := rfl
    have e6 : (((("number " : String) : Str))).length = 7 := rfl
    refine ⟨"number ", rfl, by decide, ?_⟩
    refine ⟨_, rfl, fl, fun m hm => ?_⟩
    refine ⟨m, rfl, ?_, ?_⟩
    · rw [strLen_append, strLen_append, sizeLine_eq, e6]
      show 0 + 7 + _ ≤ _
      omega
    refine ⟨" means no source", rfl, ?_, ?_⟩
    · rw [strLen_append, strLen_append, strLen_append, sizeLine_eq, e5, e6]
      show 0 + 7 + _ + _ ≤ _
      omega
    refine ⟨a, D, [_], rfl, by show 1 ≤ 1000; decide, T.ox, ha, ?_⟩
    refine ⟨_, rfl, _, rfl, ?_⟩
    exact ⟨a, D, rfl, T.ox, T.noN, ha, fun dx h1 h2 => k dx h1 h2⟩
theorem scNotASetInit : FnScope ["self", "number"] ["self", "number"] (defScope sNotASetInit) := ⟨rfl, rfl, rfl, by decide +kernel, rfl, by decide +kernel, by decide +kernel⟩
abbrev NotASetE (K : PySem.W.Frag) (mg : Str → Option Value) (D fI : Addr) (fdI : FuncData) : Prop := ErrF K mg "NotASet" "number" D fI fdI "TypeError.__new__" (.type "TypeError" :: exT)
theorem okNotASetInit {D fI : Addr} {fdI : FuncData} (F : Fun K "__init__" "NotASet.__init__" sNotASetInit fI fdI) (gB : mg "TypeError" = none) (fB : PySem.W.findCls K (.type "TypeError") (.type "type") "__init__" = some (.val (.builtin "TypeError.__init__"))) (T : NotASetE K mg D fI fdI) : FnOk P w K mg base CX0 1 fI fdI ["self", "number"] (spErrInit D "number") := by
  refine F.ok scNotASetInit (fun vs H Q E h => ?_) (fun cdv A outer s H vs Q E hr h => ?_)
  · obtain ⟨a, n, rfl, _⟩ := h
    rfl
  · obtain ⟨a, n, rfl, fl, ha, k⟩ := h
    refine ⟨_, pss_cons (ps_expr (pe_binit bxType (by rfl) gB fB (pa_cons (pv 0) (pa_cons (pe_joined (.cons pe_str (.cons (pe_fmtO hr (pv 1)) (.cons pe_str .nil)))) pa_nil))))
      (pss_one (ps_osb (f := "number") bxType (pv 0) (pv 1))), ?_⟩
    walk_at "wn"
    show tCons _ _ _ _ _
    walk_at "wn"
    show tJs _ _ _ _ _
    have e5 : (((" means no set" : String) : Str)).length = 13 := rfl
    have e6 : (((("number " : String) : Str))).length = 7 := rfl
    refine ⟨"number ", rfl, by decide, ?_⟩
    refine ⟨_, rfl, fl, fun m hm => ?_⟩
    refine ⟨m, rfl, ?_, ?_⟩
    · rw [strLen_append, strLen_append, sizeLine_eq, e6]
      show 0 + 7 + _ ≤ _
      omega
    refine ⟨" means no set", rfl, ?_, ?_⟩
    · rw [strLen_append, strLen_append, strLen_append, sizeLine_eq, e5, e6]
      show 0 + 7 + _ + _ ≤ _
      omega
    refine ⟨a, D, [_], rfl, by show 1 ≤ 1000; decide, T.ox, ha, ?_⟩
    refine ⟨_, rfl, _, rfl, ?_⟩
    exact ⟨a, D, rfl, T.ox, T.noN, ha, fun dx h1 h2 => k dx h1 h2⟩
theorem scBadCountInit : FnScope ["self", "count"] ["self", "count"] (defScope sBadCountInit) := ⟨rfl, rfl, rfl, by decide +kernel, rfl, by decide +kernel, by decide +kernel⟩
abbrev BadCountE (K : PySem.W.Frag) (mg : Str → Option Value) (D fI : Addr) (fdI : FuncData) : Prop := ErrF K mg "BadCount" "count" D fI fdI "ValueError.__new__" (.type "ValueError" :: exT)
theorem okBadCountInit {D fI : Addr} {fdI : FuncData} (F : Fun K "__init__" "BadCount.__init__" sBadCountInit fI fdI) (gB : mg "ValueError" = none) (fB : PySem.W.findCls K (.type "ValueError") (.type "type") "__init__" = some (.val (.builtin "ValueError.__init__"))) (T : BadCountE K mg D fI fdI) : FnOk P w K mg base CX0 1 fI fdI ["self", "count"] (spErrInit D "count") := by
  refine F.ok scBadCountInit (fun vs H Q E h => ?_) (fun cdv A outer s H vs Q E hr h => ?_)
  · obtain ⟨a, n, rfl, _⟩ := h
    rfl
  · obtain ⟨a, n, rfl, fl, ha, k⟩ := h
    refine ⟨_, pss_cons (ps_expr (pe_binit bxValue (by rfl) gB fB (pa_cons (pv 0) (pa_cons (pe_joined (.cons (pe_fmtO hr (pv 1)) (.cons pe_str .nil))) pa_nil))))
      (pss_one (ps_osb (f := "count") bxValue (pv 0) (pv 1))), ?_⟩
    walk_at "wn"
    show tCons _ _ _ _ _
    walk_at "wn"
    show tJs _ _ _ _ _
    have e5 : (((" is no count" : String) : Str)).length = 12 := rfl
    refine ⟨_, rfl, fl, fun m hm => ?_⟩
    refine ⟨m, rfl, ?_, ?_⟩
    · rw [strLen_append, sizeLine_eq]
      show 0 + _ ≤ _
      omega
    refine ⟨" is no count", rfl, ?_, ?_⟩
    · rw [strLen_append, strLen_append, sizeLine_eq, e5]
      show 0 + _ + _ ≤ _
      omega
    refine ⟨a, D, [_], rfl, by show 1 ≤ 1000; decide, T.ox, ha, ?_⟩
    refine ⟨_, rfl, _, rfl, ?_⟩
    exact ⟨a, D, rfl, T.ox, T.noN, ha, fun dx h1 h2 => k dx h1 h2⟩
theorem scBadLabelInit : FnScope ["self", "label"] ["self", "label"] (defScope sBadLabelInit) := ⟨rfl, rfl, rfl, by decide +kernel, rfl, by decide +kernel, by decide +kernel⟩
abbrev BadLabelE (K : PySem.W.Frag) (mg : Str → Option Value) (D fI : Addr) (fdI : FuncData) : Prop := ErrF K mg "BadLabel" "label" D fI fdI "ValueError.__new__" (.type "ValueError" :: exT)
theorem okBadLabelInit {D fI : Addr} {fdI : FuncData} (F : Fun K "__init__" "BadLabel.__init__" sBadLabelInit fI fdI) (gB : mg "ValueError" = none) (fB : PySem.W.findCls K (.type "ValueError") (.type "type") "__init__" = some (.val (.builtin "ValueError.__init__"))) (T : BadLabelE K mg D fI fdI) : FnOk P w K mg base CX0 1 fI fdI ["self", "label"] (spErrInit D "label") := by
  refine F.ok scBadLabelInit (fun vs H Q E h => ?_) (fun cdv A outer s H vs Q E hr h => ?_)
  · obtain ⟨a, n, rfl, _⟩ := h
    rfl
  · obtain ⟨a, n, rfl, fl, ha, k⟩ := h
    refine ⟨_, pss_cons (ps_expr (pe_binit bxValue (by rfl) gB fB (pa_cons (pv 0) (pa_cons (pe_joined (.cons (pe_fmtO hr (pv 1)) (.cons pe_str .nil))) pa_nil))))
      (pss_one (ps_osb (f := "label") bxValue (pv 0) (pv 1))), ?_⟩
    walk_at "wn"
    show tCons _ _ _ _ _
    walk_at "wn"
    show tJs _ _ _ _ _
    have e5 : (((" is no label" : String) : Str)).length = 12 := rfl
    refine ⟨_, rfl, fl, fun m hm => ?_⟩
    refine ⟨m, rfl, ?_, ?_⟩
    · rw [strLen_append, sizeLine_eq]
      show 0 + _ ≤ _
      omega
    refine ⟨" is no label", rfl, ?_, ?_⟩
    · rw [strLen_append, strLen_append, sizeLine_eq, e5]
      show 0 + _ + _ ≤ _
      omega
    refine ⟨a, D, [_], rfl, by show 1 ≤ 1000; decide, T.ox, ha, ?_⟩
    refine ⟨_, rfl, _, rfl, ?_⟩
    exact ⟨a, D, rfl, T.ox, T.noN, ha, fun dx h1 h2 => k dx h1 h2⟩
theorem scBadWordInit : FnScope ["self", "word"] ["self", "word"] (defScope sBadWordInit) := ⟨rfl, rfl, rfl, by decide +kernel, rfl, by decide +kernel, by decide +kernel⟩
abbrev BadWordE (K : PySem.W.Frag) (mg : Str → Option Value) (D fI : Addr) (fdI : FuncData) : Prop := ErrF K mg "BadWord" "word" D fI fdI "ValueError.__new__" (.type "ValueError" :: exT)
theorem okBadWordInit {D fI : Addr} {fdI : FuncData} (F : Fun K "__init__" "BadWord.__init__" sBadWordInit fI fdI) (gB : mg "ValueError" = none) (fB : PySem.W.findCls K (.type "ValueError") (.type "type") "__init__" = some (.val (.builtin "ValueError.__init__"))) (T : BadWordE K mg D fI fdI) : FnOk P w K mg base CX0 1 fI fdI ["self", "word"] (spErrInit D "word") := by
  refine F.ok scBadWordInit (fun vs H Q E h => ?_) (fun cdv A outer s H vs Q E hr h => ?_)
  · obtain ⟨a, n, rfl, _⟩ := h
    rfl
  · obtain ⟨a, n, rfl, fl, ha, k⟩ := h
    refine ⟨_, pss_cons (ps_expr (pe_binit bxValue (by rfl) gB fB (pa_cons (pv 0) (pa_cons (pe_joined (.cons (pe_fmtO hr (pv 1)) (.cons pe_str .nil))) pa_nil))))
      (pss_one (ps_osb (f := "word") bxValue (pv 0) (pv 1))), ?_⟩
    walk_at "wn"
    show tCons _ _ _ _ _
    walk_at "wn"
    show tJs _ _ _ _ _
    have e5 : (((" is no word" : String) : Str)).length = 11 := rfl
    refine ⟨_, rfl, fl, fun m hm => ?_⟩
    refine ⟨m, rfl, ?_, ?_⟩
    · rw [strLen_append, sizeLine_eq]
      show 0 + _ ≤ _
      omega
    refine ⟨" is no word", rfl, ?_, ?_⟩
    · rw [strLen_append, strLen_append, sizeLine_eq, e5]
      show 0 + _ + _ ≤ _
      omega
    refine ⟨a, D, [_], rfl, by show 1 ≤ 1000; decide, T.ox, ha, ?_⟩
    refine ⟨_, rfl, _, rfl, ?_⟩
    exact ⟨a, D, rfl, T.ox, T.noN, ha, fun dx h1 h2 => k dx h1 h2⟩
theorem scFullInit : FnScope ["self", "process"] ["self", "process"] (defScope sFullInit) := ⟨rfl, rfl, rfl, by decide +kernel, rfl, by decide +kernel, by decide +kernel⟩
abbrev FullE (K : PySem.W.Frag) (mg : Str → Option Value) (D fI : Addr) (fdI : FuncData) : Prop := ErrF K mg "Full" "process" D fI fdI "OverflowError.__new__" (.type "OverflowError" :: .type "ArithmeticError" :: exT)
theorem okFullInit {D fI : Addr} {fdI : FuncData} (F : Fun K "__init__" "Full.__init__" sFullInit fI fdI) (gB : mg "OverflowError" = none) (fB : PySem.W.findCls K (.type "OverflowError") (.type "type") "__init__" = some (.val (.builtin "OverflowError.__init__"))) (T : FullE K mg D fI fdI) : FnOk P w K mg base CX0 1 fI fdI ["self", "process"] (spErrInit D "process") := by
  refine F.ok scFullInit (fun vs H Q E h => ?_) (fun cdv A outer s H vs Q E hr h => ?_)
  · obtain ⟨a, n, rfl, _⟩ := h
    rfl
  · obtain ⟨a, n, rfl, fl, ha, k⟩ := h
    refine ⟨_, pss_cons (ps_expr (pe_binit bxOverflow (by rfl) gB fB (pa_cons (pv 0) (pa_cons (pe_joined (.cons pe_str (.cons (pe_fmtO hr (pv 1)) (.cons pe_str .nil)))) pa_nil))))
      (pss_one (ps_osb (f := "process") bxOverflow (pv 0) (pv 1))), ?_⟩
    walk_at "wn"
    show tCons _ _ _ _ _
    walk_at "wn"
    show tJs _ _ _ _ _
    have e5 : (((" has no free number" : String) : Str)).length = 19 := rfl
    have e6 : (((("process " : String) : Str))).length = 8 := rfl
    refine ⟨"process ", rfl, by decide, ?_⟩
    refine ⟨_, rfl, fl, fun m hm => ?_⟩
    refine ⟨m, rfl, ?_, ?_⟩
    · rw [strLen_append, strLen_append, sizeLine_eq, e6]
      show 0 + 8 + _ ≤ _
      omega
    refine ⟨" has no free number", rfl, ?_, ?_⟩
    · rw [strLen_append, strLen_append, strLen_append, sizeLine_eq, e5, e6]
      show 0 + 8 + _ + _ ≤ _
      omega
    refine ⟨a, D, [_], rfl, by show 1 ≤ 1000; decide, T.ox, ha, ?_⟩
    refine ⟨_, rfl, _, rfl, ?_⟩
    exact ⟨a, D, rfl, T.ox, T.noN, ha, fun dx h1 h2 => k dx h1 h2⟩
theorem scRegisteredInit : FnScope ["self", "number"] ["self", "number"] (defScope sRegisteredInit) := ⟨rfl, rfl, rfl, by decide +kernel, rfl, by decide +kernel, by decide +kernel⟩
abbrev RegisteredE (K : PySem.W.Frag) (mg : Str → Option Value) (D fI : Addr) (fdI : FuncData) : Prop := ErrF K mg "Registered" "number" D fI fdI "RuntimeError.__new__" (.type "RuntimeError" :: exT)
theorem okRegisteredInit {D fI : Addr} {fdI : FuncData} (F : Fun K "__init__" "Registered.__init__" sRegisteredInit fI fdI) (gB : mg "RuntimeError" = none) (fB : PySem.W.findCls K (.type "RuntimeError") (.type "type") "__init__" = some (.val (.builtin "RuntimeError.__init__"))) (T : RegisteredE K mg D fI fdI) : FnOk P w K mg base CX0 1 fI fdI ["self", "number"] (spErrInit D "number") := by
  refine F.ok scRegisteredInit (fun vs H Q E h => ?_) (fun cdv A outer s H vs Q E hr h => ?_)
  · obtain ⟨a, n, rfl, _⟩ := h
    rfl
  · obtain ⟨a, n, rfl, fl, ha, k⟩ := h
    refine ⟨_, pss_cons (ps_expr (pe_binit bxRuntime (by rfl) gB fB (pa_cons (pv 0) (pa_cons (pe_joined (.cons pe_str (.cons (pe_fmtO hr (pv 1)) (.cons pe_str .nil)))) pa_nil))))
      (pss_one (ps_osb (f := "number") bxRuntime (pv 0) (pv 1))), ?_⟩
    walk_at "wn"
    show tCons _ _ _ _ _
    walk_at "wn"
    show tJs _ _ _ _ _
    have e5 : (((" and its source are registered" : String) : Str)).length = 30 := rfl
    have e6 : (((("number " : String) : Str))).length = 7 := rfl
    refine ⟨"number ", rfl, by decide, ?_⟩
    refine ⟨_, rfl, fl, fun m hm => ?_⟩
    refine ⟨m, rfl, ?_, ?_⟩
    · rw [strLen_append, strLen_append, sizeLine_eq, e6]
      show 0 + 7 + _ ≤ _
      omega
    refine ⟨" and its source are registered", rfl, ?_, ?_⟩
    · rw [strLen_append, strLen_append, strLen_append, sizeLine_eq, e5, e6]
      show 0 + 7 + _ + _ ≤ _
      omega
    refine ⟨a, D, [_], rfl, by show 1 ≤ 1000; decide, T.ox, ha, ?_⟩
    refine ⟨_, rfl, _, rfl, ?_⟩
    exact ⟨a, D, rfl, T.ox, T.noN, ha, fun dx h1 h2 => k dx h1 h2⟩
theorem scTakenInit : FnScope ["self", "label"] ["self", "label"] (defScope sTakenInit) := ⟨rfl, rfl, rfl, by decide +kernel, rfl, by decide +kernel, by decide +kernel⟩
abbrev TakenE (K : PySem.W.Frag) (mg : Str → Option Value) (D fI : Addr) (fdI : FuncData) : Prop := ErrF K mg "Taken" "label" D fI fdI "RuntimeError.__new__" (.type "RuntimeError" :: exT)
theorem okTakenInit {D fI : Addr} {fdI : FuncData} (F : Fun K "__init__" "Taken.__init__" sTakenInit fI fdI) (gB : mg "RuntimeError" = none) (fB : PySem.W.findCls K (.type "RuntimeError") (.type "type") "__init__" = some (.val (.builtin "RuntimeError.__init__"))) (T : TakenE K mg D fI fdI) : FnOk P w K mg base CX0 1 fI fdI ["self", "label"] (spErrInit D "label") := by
  refine F.ok scTakenInit (fun vs H Q E h => ?_) (fun cdv A outer s H vs Q E hr h => ?_)
  · obtain ⟨a, n, rfl, _⟩ := h
    rfl
  · obtain ⟨a, n, rfl, fl, ha, k⟩ := h
    refine ⟨_, pss_cons (ps_expr (pe_binit bxRuntime (by rfl) gB fB (pa_cons (pv 0) (pa_cons (pe_joined (.cons pe_str (.cons (pe_fmtO hr (pv 1)) (.cons pe_str .nil)))) pa_nil))))
      (pss_one (ps_osb (f := "label") bxRuntime (pv 0) (pv 1))), ?_⟩
    walk_at "wn"
    show tCons _ _ _ _ _
    walk_at "wn"
    show tJs _ _ _ _ _
    have e5 : (((" is taken" : String) : Str)).length = 9 := rfl
    have e6 : (((("label " : String) : Str))).length = 6 := rfl
    refine ⟨"label ", rfl, by decide, ?_⟩
    refine ⟨_, rfl, fl, fun m hm => ?_⟩
    refine ⟨m, rfl, ?_, ?_⟩
    · rw [strLen_append, strLen_append, sizeLine_eq, e6]
      show 0 + 6 + _ ≤ _
      omega
    refine ⟨" is taken", rfl, ?_, ?_⟩
    · rw [strLen_append, strLen_append, strLen_append, sizeLine_eq, e5, e6]
      show 0 + 6 + _ + _ ≤ _
      omega
    refine ⟨a, D, [_], rfl, by show 1 ≤ 1000; decide, T.ox, ha, ?_⟩
    refine ⟨_, rfl, _, rfl, ?_⟩
    exact ⟨a, D, rfl, T.ox, T.noN, ha, fun dx h1 h2 => k dx h1 h2⟩
/-- the way out with an error of the class at D whose field is v -/
def OutV (D : Addr) (f : Str) (v : V) (H : Hp) (E : XK) : Prop := ∀ d H', H d = none → Same H H' → H' d = some (.xd [(f, v)]) → E (.ref D) (some d) H'
abbrev Out (D : Addr) (f : Str) (n : Int) (H : Hp) (E : XK) : Prop := OutV D f (.int n) H E
theorem out_madeV {D : Addr} {f : Str} {v : V} {H : Hp} {Q : XK} (fl : Flat H v) (k : OutV D f v H Q) :
    ([v].length ≤ 1000 ∧ ∀ a, H a = none → spErrInit D f (.ref a :: ([v] ++ [])) (upd H a (exo a D none)) (fun v H2 => v = .non ∧ ∃ (d : Addr) (fs : List (Str × V)), H2 a = some (exo a D (some d)) ∧ H2 d = some (exd d fs) ∧ H d = none ∧ Q (.ref D) (some d) (upd (del H2 a) d (.xd fs))) fun _ _ _ => False) := by
  refine ⟨by show 1 ≤ 1000; decide, fun a ha => ⟨a, v, rfl, fl.same (Same.new' ha), upd_same, fun d hd nd => ⟨rfl, d, [(f, v)], upd_same, ?_, ?_, ?_⟩⟩⟩
  · rw [upd_ne nd, upd_same]
  · rw [upd_ne nd] at hd
    exact hd
  · rw [upd_ne nd] at hd
    refine k d _ hd (fun b o e => ?_) upd_same
    have n1 : b ≠ d := fun z => by rw [z, hd] at e; cases e
    have n2 : b ≠ a := fun z => by rw [z, ha] at e; cases e
    rw [upd_ne n1]
    show (if b = a then none else _) = _
    rw [if_neg n2, upd_ne n2, upd_ne n1, upd_ne n2]
    exact e
end
/-! an own error without fields -/
section
variable {X : Cx}
theorem mk_endN {pins : List (Addr × Obj)} {σ : L2.St} {H1 H2 : Hp} {Q : XK} {hp hp2 h2 : Heap} {g1 g2 : Array GenState} {d1 d2 : Drawn} {t1 t2 : Nat} {os1 os2 : OsState} {a C : Addr} (T : Raises X (.ref C)) (I1 : Inv X pins σ H1 ⟨hp, g1, d1, t1, os1⟩)
    (ha : hp.objs.size ≤ a) (k : ∀ b o, hp.get? b = some o → hp2.get? b = some o) (un : Un (frs X.stack) [] (upd H1 a (exo a C none)) H2 hp2 h2) (hok : HOk X.prog X.w H2 h2) (ho : os2 = os1) (hb : AllBare g2)
    (ea : H2 a = some (exo a C none)) (q : Q (.ref C) none (del H2 a)) : MkP X pins σ Q (.ref a) ⟨h2, g2, d2, t2, os2⟩ := by
  obtain ⟨t0, hoe⟩ := exo_at hok ea
  have hn : H1 a = none := I1.hok.fresh ha
  obtain ⟨G, g1', g2'⟩ := restrict h2 fun b => decide (b ≠ a)
  have gk : ∀ b, b ≠ a → G.get? b = h2.get? b := fun b hb => g1' b (decide_eq_true hb)
  have ge : G.get? a = none := g2' a (by simp)
  have nha : ∀ {b : Addr} {o : Obj}, hp.get? b = some o → b ≠ a := fun {b o} z => Nat.ne_of_lt (Nat.lt_of_lt_of_le (Heap.lt_size z) ha)
  have up : ∀ {b : Addr}, b ≠ a → H1 b = none → upd H1 a (exo a C none) b = none := fun {b} hb n => by rw [upd_ne hb]; exact n
  have U : Un (frs X.stack) [] H1 (del H2 a) hp G := {
    keep := fun b o z n hf hx => by
      rw [gk b (nha z)]
      exact un.keep b o (k b o z) (up (nha z) n) hf hx
    slot := fun b o z n hf hx => by
      rw [gk b (nha z)]
      exact un.slot b o (k b o z) (up (nha z) n) hf hx
    free := fun b o z n hx => by
      rw [del_ne (nha z)]
      exact un.free b o (k b o z) (up (nha z) n) hx
    there := fun b o z hx => by
      rw [gk b (nha z)]
      exact un.there b o (k b o z) hx
    tups := fun b xs z => by
      rw [del_ne (ne_of_none z hn)]
      exact un.tups b xs (by rw [upd_ne (ne_of_none z hn)]; exact z)
    frzs := fun b o v z => by
      rw [del_ne (ne_of_none z hn)]
      exact un.frzs b o v (by rw [upd_ne (ne_of_none z hn)]; exact z)
    tbls := fun b ps z => by
      rw [del_ne (ne_of_none z hn)]
      exact un.tbls b ps (by rw [upd_ne (ne_of_none z hn)]; exact z) }
  have hok3 : HOk X.prog X.w (del H2 a) G := fun b o z => by
    have hba : b ≠ a := fun e => by
      rw [e, del_same] at z
      cases z
    rw [del_ne hba] at z
    have noa : ∀ {c : Addr}, H2 c = some (.own b) → c ≠ a := fun {c} hc => at_ne ea hc exo_own
    exact (hok b o z).stay (fun c v hc y => by
        have hca : c ≠ a := by
          rcases hc with hc | hc
          · rw [hc]
            exact hba
          · exact noa hc
        rw [gk c hca]
        exact y)
      (fun c hc => by rw [del_ne (noa hc)]; exact hc) (fun c xs hc => by rw [del_ne (at_ne ea hc exo_tup)]; exact hc)
  have J : Inv X pins σ (del H2 a) ⟨G, g2, d2, t2, os2⟩ := I1.call' (ch := []) ho U hok3 hb (fun b z => absurd z (by simp))
  refine ⟨a, _, _, ⟨G, g2, d2, t2, os2⟩, _, .ref C, none, rfl, J, fun b o z => ?_, ge, hoe, ⟨rfl, rfl⟩, rfl, rfl, del_same, rfl, hb, T, q⟩
  by_cases hba : b = a
  · rw [hba, ge] at z
    cases z
  · exact (gk b hba).symm.trans z
/-- C(), an own error whose __init__ stores nothing -/
def tMkO0 (C : Addr) (sp : Sp) : L2.St → Hp → XK → Prop := fun _ H1 Q => ∀ a, H1 a = none → sp [.ref a] (upd H1 a (exo a C none)) (fun v H2 => v = .non ∧ H2 a = some (exo a C none) ∧ Q (.ref C) none (del H2 a)) fun _ _ _ => False
theorem pmk_oxb0 {CX : CXT} {n x : Str} {newId initId B : String} {tl : List Value} {C fI : Addr} {k : Nat} {fd : FuncData} {ps : List Str} {sp : Sp} {p pos : Pos} (Z : BX x B newId initId tl) (T : OxB X.K C newId (.type B :: tl)) (iC : PySem.W.findIn X.K (.ref C) "__init__" = some (some (.ref fI)))
    (tI : PySem.W.typeIn X.K (.ref fI) = some (.type "function")) (G : FnOk X.prog X.w X.K X.mg X.base CX k fI fd ps sp) (hr : Room (k + 1) X.A) (hb : Binds X.K fd ps []) (hx : Passes CX X (fun _ _ _ => False)) (hg : Gl X n) (hm : X.mg n = some (.ref C))
    (db : (n == ("__debug__" : Str)) = false := by decide) : PMk X (.Call (.Name n p) [] [] pos) (tMkO0 C sp) := by
  intro pins s σ H Q I h
  obtain ⟨nm, q, N, bs, sn, sub, ab, col, dd, k0, k1, k2, k3, k5, hC⟩ := T.cls
  refine wpAny_Call_Name_kw (ld_glob I hg hm ?_ db)
  refine PySem.W.callWith_K0 I.kIn T.kC ?_
  obtain ⟨hp, g, dr, tk, os⟩ := s
  show wpAny _ _ (call (.ref C) []) _ _ _
  have above : hp.objs.size ≤ hp.objs.size + 1 := Nat.le_succ _
  have want := h (hp.objs.size + 1) (I.hok.fresh above)
  have kp : ∀ b o, hp.get? b = some o → ((hp.push (PySem.W.kdv_tup [])).push (PySem.HandSPX.excO C hp.objs.size)).get? b = some o := fun b o z => Heap.get?_push_of_some _ (Heap.get?_push_of_some _ z)
  have here : ((hp.push (PySem.W.kdv_tup [])).push (PySem.HandSPX.excO C hp.objs.size)).get? (hp.objs.size + 1) = some (PySem.HandSPX.excO C hp.objs.size) := by heap_get
  have I2 : Inv X pins σ (upd H (hp.objs.size + 1) (exo (hp.objs.size + 1) C none)) ⟨(hp.push (PySem.W.kdv_tup [])).push (PySem.HandSPX.excO C hp.objs.size), g, dr, tk, os⟩ := I.laid (t' := tk) kp above (exo_ok here)
  have rs : Vals [V.ref (hp.objs.size + 1)] [Value.ref (hp.objs.size + 1)] := .cons rfl .nil
  have many : ([Value.ref (hp.objs.size + 1)] ++ []).length = ps.length := by rw [← G.len _ _ _ _ want]; rfl
  refine wpAny_call (PySem.HandSPX.call_own Z.bf (fun _ => rfl) (I.kIn _ _ hC) (PySem.W.looks_findIn I.kIn iC) (fun self => PySem.W.bind_fn I.kIn self tI) (Nat.zero_le _)
    (codeAny_mono (G.run _ X.stack _ _ ⟨[Value.ref (hp.objs.size + 1)], []⟩ [Value.ref (hp.objs.size + 1)] _ _ (fun _ _ _ => False) (hr.make C [] []) (I2.env0.make C [] []) (by have := hb ⟨(hp.push (PySem.W.kdv_tup [])).push (PySem.HandSPX.excO C hp.objs.size), g, dr, tk, os⟩ [Value.ref (hp.objs.size + 1)] I2.kIn many; simpa using this) rs want) fun r s' hq => ?_))
  rcases r with er | (_ | _ | _ | u)
  all_goals first | exact False.elim hq | exact hx pins σ _ _ er s' I2 hq | skip
  all_goals
    obtain ⟨v, H2, os2, bare2, un2, hok2, rv, ev, ea, q2⟩ := hq
    subst ev
    obtain ⟨h2, g2, d2, t2, os'⟩ := s'
    exact ⟨rv, mk_endN (raises_own T.exC T.tyC) I above kp un2 hok2 os2 bare2 ea q2⟩
end
/-- an error of the class at D without fields -/
structure ErrN (K : PySem.W.Frag) (mg : Str → Option Value) (nm : Str) (D fI : Addr) (fdI : FuncData) (newId : String) (bm : List Value) : Prop where
  gC : mg nm = some (.ref D)
  ox : OxB K D newId bm
  iC : PySem.W.findIn K (.ref D) "__init__" = some (some (.ref fI))
  tI : PySem.W.typeIn K (.ref fI) = some (.type "function")
  bI : Binds K fdI ["self"] []
  te : PySem.W.exmOne K (.ref D) (.ref D) = some true
  xf : XfC K D
def OutN (D : Addr) (H : Hp) (E : XK) : Prop := ∀ H', Same H H' → E (.ref D) none H'
abbrev NoRoomE (K : PySem.W.Frag) (mg : Str → Option Value) (D fI : Addr) (fdI : FuncData) : Prop := ErrN K mg "NoRoom" D fI fdI "OverflowError.__new__" (.type "OverflowError" :: .type "ArithmeticError" :: exT)
section
variable {P : Program} {w : World} {K : PySem.W.Frag} {mg : Str → Option Value} {base : Heap} {C : Cs}
def spErr0 (D : Addr) : Sp := fun vs H Q _ => ∃ a : Addr, vs = [.ref a] ∧ H a = some (exo a D none) ∧ Q .non H
theorem scNoRoomInit : FnScope ["self"] ["self"] (defScope sNoRoomInit) := ⟨rfl, rfl, rfl, by decide +kernel, rfl, by decide +kernel, by decide +kernel⟩
theorem okNoRoomInit {D fI : Addr} {fdI : FuncData} (F : Fun K "__init__" "NoRoom.__init__" sNoRoomInit fI fdI) (gB : mg "OverflowError" = none) (fB : PySem.W.findCls K (.type "OverflowError") (.type "type") "__init__" = some (.val (.builtin "OverflowError.__init__"))) (T : NoRoomE K mg D fI fdI) : FnOk P w K mg base CX0 1 fI fdI ["self"] (spErr0 D) := by
  refine F.ok scNoRoomInit (fun vs H Q E h => ?_) (fun cdv A outer s H vs Q E hr h => ?_)
  · obtain ⟨a, rfl, _⟩ := h
    rfl
  · obtain ⟨a, rfl, ha, k⟩ := h
    refine ⟨_, pss_one (ps_expr (pe_binit bxOverflow (by rfl) gB fB (pa_cons (pv 0) (pa_cons pe_str pa_nil)))), ?_⟩
    walk_at "wn"
    show tCons _ _ _ _ _
    walk_at "wn"
    refine ⟨a, D, [_], rfl, by show 1 ≤ 1000; decide, T.ox, ha, ?_⟩
    exact k
end

/-! promises that may raise, beside promises that never do -/
section
variable {P : Program} {w : World} {K : PySem.W.Frag} {mg : Str → Option Value} {base : Heap} {k : Nat} {f : Addr} {fd : FuncData} {ps : List Str} {sp sp1 sp2 : Sp} {CX : CXT}
theorem FnOk.x (F : FnOk P w K mg base CX0 k f fd ps sp) : FnOk P w K mg base (L2.CX P w) k f fd ps sp :=
  ⟨F.len, fun A outer s H args us vs Q E hr he hb hv hs => codeAny_mono (F.run A outer s H args us vs Q E hr he hb hv hs) fun r s' q => by
    rcases r with e | fl
    · exact False.elim q
    · cases fl <;> exact q⟩
theorem FnOk.or (F1 : FnOk P w K mg base CX k f fd ps sp1) (F2 : FnOk P w K mg base CX k f fd ps sp2) : FnOk P w K mg base CX k f fd ps fun vs H Q E => sp1 vs H Q E ∨ sp2 vs H Q E :=
  ⟨fun vs H Q E h => h.elim (F1.len vs H Q E) (F2.len vs H Q E), fun A outer s H args us vs Q E hr he hb hv hs => hs.elim (F1.run A outer s H args us vs Q E hr he hb hv) (F2.run A outer s H args us vs Q E hr he hb hv)⟩
end
/-! what a call raises -/
inductive Er
  | proc (v : V) | open_ (v : V) | num (v : V) | nosrc (v : V) | noset (v : V) | full (v : V) | noroom | count (v : V) | label (v : V) | word (v : V) | regd (v : V) | taken (v : V)
def Er.nm : Er → Str
  | .proc _ => "NoProcess"
  | .open_ _ => "NotOpen"
  | .num _ => "NoNumber"
  | .nosrc _ => "NotASource"
  | .noset _ => "NotASet"
  | .full _ => "Full"
  | .noroom => "NoRoom"
  | .count _ => "BadCount"
  | .label _ => "BadLabel"
  | .word _ => "BadWord"
  | .regd _ => "Registered"
  | .taken _ => "Taken"
structure Es where
  proc : Addr
  open_ : Addr
  num : Addr
  nosrc : Addr
  noset : Addr
  full : Addr
  noroom : Addr
  count : Addr
  label : Addr
  word : Addr
  regd : Addr
  taken : Addr
def Er.out (D : Es) (H : Hp) (E : XK) : Er → Prop
  | .proc v => OutV D.proc "process" v H E
  | .open_ v => OutV D.open_ "number" v H E
  | .num v => OutV D.num "number" v H E
  | .nosrc v => OutV D.nosrc "number" v H E
  | .noset v => OutV D.noset "number" v H E
  | .full v => OutV D.full "process" v H E
  | .noroom => OutN D.noroom H E
  | .count v => OutV D.count "count" v H E
  | .label v => OutV D.label "label" v H E
  | .word v => OutV D.word "word" v H E
  | .regd v => OutV D.regd "number" v H E
  | .taken v => OutV D.taken "label" v H E
theorem OutV.same {D : Addr} {f : Str} {v : V} {H H1 : Hp} {E : XK} (k : OutV D f v H E) (s : Same H H1) : OutV D f v H1 E := fun d H' hd s' e => k d H' (s.free hd) (s.trans s') e
theorem Er.out_same {D : Es} {H H1 : Hp} {E : XK} {e : Er} (k : e.out D H E) (s : Same H H1) : e.out D H1 E := by
  cases e with
  | noroom => exact fun H' s' => k H' (s.trans s')
  | _ => exact OutV.same k s
/-- a class of error, with its __init__ -/
structure Thr (P : Program) (w : World) (K : PySem.W.Frag) (mg : Str → Option Value) (base : Heap) (nm f : Str) (newId : String) (bm : List Value) (D : Addr) : Prop where
  ex : ∃ (fI : Addr) (fdI : FuncData), ErrF K mg nm f D fI fdI newId bm ∧ FnOk P w K mg base CX0 1 fI fdI ["self", f] (spErrInit D f)
def tThr (D : Addr) (f : Str) (E : XK) (te : TE) : TS := fun _ σ H => tMkO D (spErrInit D f) [] (tCons te tNil) σ H fun cls d H' => E cls d H'
theorem ps_thr {X : Cx} {E : XK} {x B newId initId : String} {nm f : Str} {tl : List Value} {D : Addr} {e : Expr} {te : TE} {p pos pos2 : Pos} (R : Thr X.prog X.w X.K X.mg X.base nm f newId (.type B :: tl) D) (Z : BX x B newId initId tl) (tk : Takes X fun cls d _ H => E cls d H) (hr : Room 2 X.A) (he : PE X e te) (hc : X.calm = true := by rfl) (hg : Gl X nm := by rfl)
    (db : (nm == ("__debug__" : Str)) = false := by decide) (st : starEach [e] X.env = (false, eval e X.env) :: starEach [] X.env := by rfl) (pn : (backTo pos (starEach [] X.env)).any (·.1) = false := by rfl) : PS X (.Raise (some (.Call (.Name nm p) [e] [] pos)) none pos2) (tThr D f E te) := by
  obtain ⟨fI, fdI, T, G⟩ := R.ex
  exact ps_raise hc tk (pmk_oxb Z T.ox T.iC T.tI G hr T.bI .nil pass0 hg T.gC (pa_cons he pa_nil (hs := st)) db st pn)
theorem g_thr {D : Addr} {f : Str} {E : XK} {i : Nat} {v : V} {Ds : Ends} {σ : L2.St} {H : Hp} (h : σ[i]? = some (some v)) (fl : Flat H v) (k : OutV D f v H E) : tThr D f E (tVar i) Ds σ H := ⟨v, h, out_madeV fl k⟩
theorem g_thrD {D : Addr} {f : Str} {E : XK} {i : Nat} {v : V} {σ : L2.St} {H : Hp} (h : σ[i]? = some (some v)) (fl : Flat H v) (k : OutV D f v H E) : tMkO D (spErrInit D f) [] (tCons (tVar i) tNil) σ H fun cls d H' => E cls d H' := ⟨v, h, out_madeV fl k⟩
structure ErTx (P : Program) (w : World) (K : PySem.W.Frag) (mg : Str → Option Value) (base : Heap) (D : Es) : Prop where
  proc : Thr P w K mg base "NoProcess" "process" "LookupError.__new__" (.type "LookupError" :: exT) D.proc
  open_ : Thr P w K mg base "NotOpen" "number" "LookupError.__new__" (.type "LookupError" :: exT) D.open_
  num : Thr P w K mg base "NoNumber" "number" "LookupError.__new__" (.type "LookupError" :: exT) D.num
  nosrc : Thr P w K mg base "NotASource" "number" "TypeError.__new__" (.type "TypeError" :: exT) D.nosrc
  noset : Thr P w K mg base "NotASet" "number" "TypeError.__new__" (.type "TypeError" :: exT) D.noset
  full : Thr P w K mg base "Full" "process" "OverflowError.__new__" (.type "OverflowError" :: .type "ArithmeticError" :: exT) D.full
  noroom : ∃ (fI : Addr) (fdI : FuncData), NoRoomE K mg D.noroom fI fdI ∧ FnOk P w K mg base CX0 1 fI fdI ["self"] (spErr0 D.noroom)
  count : Thr P w K mg base "BadCount" "count" "ValueError.__new__" (.type "ValueError" :: exT) D.count
  label : Thr P w K mg base "BadLabel" "label" "ValueError.__new__" (.type "ValueError" :: exT) D.label
  word : Thr P w K mg base "BadWord" "word" "ValueError.__new__" (.type "ValueError" :: exT) D.word
  regd : Thr P w K mg base "Registered" "number" "RuntimeError.__new__" (.type "RuntimeError" :: exT) D.regd
  taken : Thr P w K mg base "Taken" "label" "RuntimeError.__new__" (.type "RuntimeError" :: exT) D.taken
def Res {α : Type} (D : Es) (H : Hp) (E : XK) (r : Except Er α) (k : α → Prop) : Prop := match r with
  | .ok a => k a
  | .error e => e.out D H E
theorem res_ok {α : Type} {D : Es} {H : Hp} {E : XK} {r : Except Er α} {k : α → Prop} {a : α} (h : r = .ok a) (q : k a) : Res D H E r k := by
  subst h
  exact q
/-! what a system is -/
structure WF (S : Sys) : Prop where
  P2 : 2 ≤ S.P
  P6 : S.P ≤ 6
  N3 : 3 ≤ S.N
  N8 : S.N ≤ 8
  pn : S.procs.Nodup
  pr : ∀ p ∈ S.procs, 0 ≤ p ∧ p < S.P
  tl : ∀ p ∈ S.procs, (S.tab p).length = S.N.toNat
  nx : ∀ p ∈ S.procs, ∀ t, some t ∈ S.tab p → t < S.next
  kd : ∀ t, (∃ p ∈ S.procs, some t ∈ S.tab p) ↔ (t ∈ S.srcs ∨ t ∈ S.sets)
  dj : ∀ t ∈ S.srcs, t ∉ S.sets
  sn : S.srcs.Nodup
  en : S.sets.Nodup
  un : ∀ t ∈ S.srcs, 0 ≤ (S.unit t).1
  ln : ∀ s ∈ S.sets, (S.ents s).Nodup
  lb : ∀ s ∈ S.sets, ∀ l ∈ S.ents s, 0 ≤ l ∧ l ≤ 999999
  rs : ∀ s ∈ S.sets, ∀ l ∈ S.ents s, (S.reg s l).src ∈ S.srcs
  rn : ∀ s ∈ S.sets, ∀ l ∈ S.ents s, 0 ≤ (S.reg s l).num ∧ (S.reg s l).num < S.N
  rw_ : ∀ s ∈ S.sets, ∀ l ∈ S.ents s, (S.reg s l).word ∈ wordsL
  ky : ∀ s ∈ S.sets, ∀ l ∈ S.ents s, ∀ j ∈ S.ents s, (S.reg s l).num = (S.reg s j).num → (S.reg s l).src = (S.reg s j).src → l = j
  qn : ∀ s ∈ S.sets, (S.que s).Nodup
  qe : ∀ s ∈ S.sets, ∀ l ∈ S.que s, l ∈ S.ents s
theorem nodup_len {α : Type} [DecidableEq α] : ∀ {l m : List α}, l.Nodup → (∀ x ∈ l, x ∈ m) → l.length ≤ m.length
  | [], _, _, _ => Nat.zero_le _
  | a :: l, m, nd, h => by
    obtain ⟨na, nl⟩ := List.nodup_cons.mp nd
    have ha := h a List.mem_cons_self
    have ih := nodup_len (m := m.erase a) nl fun x hx => (List.mem_erase_of_ne fun z : x = a => na (z ▸ hx)).mpr (h x (List.mem_cons_of_mem _ hx))
    rw [List.length_erase_of_mem ha] at ih
    have : 0 < m.length := List.length_pos_of_mem ha
    rw [List.length_cons]
    omega
theorem range_sub : ∀ (l : List Int) (N : Nat), l.Nodup → (∀ n ∈ l, 0 ≤ n ∧ n < (N : Int)) → l.length ≤ N := fun l N nd h => by
  have e : l.length = (l.map Int.toNat).length := (List.length_map ..).symm
  rw [e]
  have nd2 : (l.map Int.toNat).Nodup := by
    rw [List.nodup_iff_pairwise_ne] at nd ⊢
    rw [List.pairwise_map]
    exact List.Pairwise.imp_of_mem (fun ha hb ne z => ne (by have := h _ ha; have := h _ hb; omega)) nd
  have sub : ∀ x ∈ l.map Int.toNat, x ∈ List.range N := fun x hx => by
    obtain ⟨y, hy, rfl⟩ := List.mem_map.mp hx
    have := h y hy
    exact List.mem_range.mpr (by omega)
  have := nodup_len nd2 sub
  rw [List.length_range] at this
  exact this
theorem len_sub {l m : List Int} (nd : l.Nodup) (h : ∀ x ∈ l, x ∈ m) : l.length ≤ m.length := nodup_len nd h
/-- the things that stand in tables -/
def held (S : Sys) : List Int := S.procs.flatMap fun p => (S.tab p).filterMap id
theorem mem_held {S : Sys} {t : Int} : t ∈ held S ↔ ∃ p ∈ S.procs, some t ∈ S.tab p := by
  unfold held
  rw [List.mem_flatMap]
  constructor
  · rintro ⟨p, hp, h⟩
    obtain ⟨x, hx, e⟩ := List.mem_filterMap.mp h
    exact ⟨p, hp, by rw [← show x = some t from e]; exact hx⟩
  · rintro ⟨p, hp, h⟩
    exact ⟨p, hp, List.mem_filterMap.mpr ⟨some t, h, rfl⟩⟩
namespace WF
variable {S : Sys}
theorem pl (W : WF S) : S.procs.length ≤ 6 := range_sub S.procs 6 W.pn fun p hp => by
  have := W.pr p hp
  have := W.P6
  omega
theorem t8 (W : WF S) {p : Int} (hp : p ∈ S.procs) : (S.tab p).length ≤ 8 := by
  have := W.tl p hp
  have := W.N8
  omega
theorem held_len (W : WF S) : (held S).length ≤ 48 := by
  have go : ∀ l : List Int, (∀ p ∈ l, p ∈ S.procs) → (l.flatMap fun p => (S.tab p).filterMap id).length ≤ 8 * l.length := fun l => by
    induction l with
    | nil => exact fun _ => Nat.le_refl _
    | cons p l ih =>
      intro h
      have a := ih fun q hq => h q (List.mem_cons_of_mem _ hq)
      have b := W.t8 (h p List.mem_cons_self)
      have c : ((S.tab p).filterMap id).length ≤ (S.tab p).length := List.length_filterMap_le _ _
      rw [List.flatMap_cons, List.length_append, List.length_cons]
      omega
  have := go S.procs fun _ h => h
  have := W.pl
  unfold held
  omega
theorem srcs_len (W : WF S) : S.srcs.length ≤ 48 := Nat.le_trans (len_sub W.sn fun t ht => mem_held.mpr ((W.kd t).mpr (.inl ht))) W.held_len
theorem sets_len (W : WF S) : S.sets.length ≤ 48 := Nat.le_trans (len_sub W.en fun t ht => mem_held.mpr ((W.kd t).mpr (.inr ht))) W.held_len
theorem ents_len (W : WF S) {s : Int} (hs : s ∈ S.sets) : (S.ents s).length ≤ 384 := by
  have e : (S.ents s).length = ((S.ents s).map fun l => ((S.reg s l).num.toNat, (S.reg s l).src)).length := (List.length_map ..).symm
  rw [e]
  have nd : ((S.ents s).map fun l => ((S.reg s l).num.toNat, (S.reg s l).src)).Nodup := by
    have nd0 := W.ln s hs
    rw [List.nodup_iff_pairwise_ne] at nd0 ⊢
    rw [List.pairwise_map]
    refine List.Pairwise.imp_of_mem (fun {a b} ha hb ne z => ne (W.ky s hs a ha b hb ?_ ?_)) nd0
    · have h1 := (W.rn s hs a ha).1
      have h2 := (W.rn s hs b hb).1
      have := congrArg Prod.fst z
      have h3 : (S.reg s a).num.toNat = (S.reg s b).num.toNat := this
      omega
    · exact congrArg Prod.snd z
  have sub : ∀ x ∈ (S.ents s).map fun l => ((S.reg s l).num.toNat, (S.reg s l).src), x ∈ (List.range 8).flatMap fun n => S.srcs.map fun t => (n, t) := fun x hx => by
    obtain ⟨l, hl, rfl⟩ := List.mem_map.mp hx
    have h1 := W.rn s hs l hl
    have h2 := W.N8
    exact List.mem_flatMap.mpr ⟨_, List.mem_range.mpr (by omega), List.mem_map.mpr ⟨_, W.rs s hs l hl, rfl⟩⟩
  have h := nodup_len nd sub
  have h3 : ((List.range 8).flatMap fun n => S.srcs.map fun t => (n, t)).length = 8 * S.srcs.length := by
    rw [List.length_flatMap]
    simp only [List.length_map]
    rw [List.map_const', List.sum_replicate_nat, List.length_range]
  have := W.srcs_len
  omega
theorem que_len (W : WF S) {s : Int} (hs : s ∈ S.sets) : (S.que s).length ≤ 384 := Nat.le_trans (len_sub (W.qn s hs) (W.qe s hs)) (W.ents_len hs)
theorem small (W : WF S) : Small S := ⟨fun s hs => Nat.le_trans (W.que_len hs) (by decide), fun s hs => Nat.le_trans (W.ents_len hs) (by decide), Nat.le_trans W.srcs_len (by decide), Nat.le_trans W.sets_len (by decide), W.en⟩
theorem tidy (W : WF S) : Tidy S := ⟨W.small, W.ln⟩
theorem next_out (W : WF S) : S.next ∉ S.srcs ∧ S.next ∉ S.sets := by
  refine ⟨fun h => ?_, fun h => ?_⟩
  · obtain ⟨p, hp, h2⟩ := (W.kd _).mpr (.inl h)
    have := W.nx p hp _ h2
    omega
  · obtain ⟨p, hp, h2⟩ := (W.kd _).mpr (.inr h)
    have := W.nx p hp _ h2
    omega
theorem kind (W : WF S) {p n t : Int} (M : Means S p n t) : t ∈ S.srcs ∨ t ∈ S.sets := (W.kd t).mp ⟨p, M.pr, List.mem_of_getElem? M.at_⟩
end WF
/-! what a process number and a number say -/
def tabOf (S : Sys) (p : V) : Except Er Int := match p with
  | .int i => if i ∈ S.procs then .ok i else .error (.proc (.int i))
  | v => .error (.proc v)
def numAt (S : Sys) (q : Int) (n : V) : Except Er Int := match n with
  | .int j => if 0 ≤ j ∧ j ≤ S.N - 1 then (match (S.tab q)[j.toNat]? with
    | some (some t) => .ok t
    | _ => .error (.open_ (.int j))) else .error (.open_ (.int j))
  | v => .error (.open_ v)
def thing (S : Sys) (p n : V) : Except Er Int := match tabOf S p with
  | .ok q => numAt S q n
  | .error e => .error e
def source (S : Sys) (p n : V) : Except Er Int := match thing S p n with
  | .ok t => if t ∈ S.srcs then .ok t else .error (.nosrc n)
  | .error e => .error e
def setOf (S : Sys) (p n : V) : Except Er Int := match thing S p n with
  | .ok t => if t ∈ S.sets then .ok t else .error (.noset n)
  | .error e => .error e
theorem tabOf_ok {S : Sys} {p : V} {q : Int} (h : tabOf S p = .ok q) : p = .int q ∧ q ∈ S.procs := by
  unfold tabOf at h
  split at h
  · split at h
    · cases h
      exact ⟨rfl, by assumption⟩
    · cases h
  · cases h
theorem tabOf_of {S : Sys} {q : Int} (h : q ∈ S.procs) : tabOf S (.int q) = .ok q := if_pos h
theorem numAt_ok {S : Sys} {q : Int} {n : V} {t : Int} (h : numAt S q n = .ok t) : ∃ j, n = .int j ∧ 0 ≤ j ∧ j ≤ S.N - 1 ∧ (S.tab q)[j.toNat]? = some (some t) := by
  unfold numAt at h
  split at h
  · rename_i j
    split at h
    · rename_i hj
      split at h
      · rename_i t' e
        cases h
        exact ⟨j, rfl, hj.1, hj.2, e⟩
      · cases h
    · cases h
  · cases h
theorem thing_ok {S : Sys} {p n : V} {t : Int} (h : thing S p n = .ok t) : ∃ i j, p = .int i ∧ n = .int j ∧ Means S i j t := by
  unfold thing at h
  split at h
  · rename_i q hq
    obtain ⟨e1, hp⟩ := tabOf_ok hq
    obtain ⟨j, e2, h1, h2, h3⟩ := numAt_ok h
    exact ⟨q, j, e1, e2, hp, h1, h2, h3⟩
  · cases h
theorem thing_of {S : Sys} {i j t : Int} (M : Means S i j t) : thing S (.int i) (.int j) = .ok t := by
  unfold thing
  rw [tabOf_of M.pr]
  show (if 0 ≤ j ∧ j ≤ S.N - 1 then _ else _) = _
  rw [if_pos ⟨M.lo, M.hi⟩, M.at_]
theorem source_ok {S : Sys} {p n : V} {t : Int} (h : source S p n = .ok t) : (∃ i j, p = .int i ∧ n = .int j ∧ Means S i j t) ∧ t ∈ S.srcs := by
  unfold source at h
  split at h
  · split at h
    · rename_i u hu ht
      cases h
      exact ⟨thing_ok hu, ht⟩
    · cases h
  · cases h
theorem source_of {S : Sys} {i j t : Int} (M : Means S i j t) (h : t ∈ S.srcs) : source S (.int i) (.int j) = .ok t := by
  unfold source
  rw [thing_of M]
  exact if_pos h
theorem setOf_ok {S : Sys} {p n : V} {t : Int} (h : setOf S p n = .ok t) : (∃ i j, p = .int i ∧ n = .int j ∧ Means S i j t) ∧ t ∈ S.sets := by
  unfold setOf at h
  split at h
  · split at h
    · rename_i u hu ht
      cases h
      exact ⟨thing_ok hu, ht⟩
    · cases h
  · cases h
theorem setOf_of {S : Sys} {i j t : Int} (M : Means S i j t) (h : t ∈ S.sets) : setOf S (.int i) (.int j) = .ok t := by
  unfold setOf
  rw [thing_of M]
  exact if_pos h
/-! checks of any object -/
section
variable {P : Program} {w : World} {K : PySem.W.Frag} {mg : Str → Option Value} {base : Heap} {C : Cs} {D : Es}
def spIntX : Sp := fun vs H Q _ => ∃ x : V, vs = [x] ∧ Ob H x ∧ Q (.bl (isI x)) H
theorem okIntX {f : Addr} {fd : FuncData} (F : Fun K "is_integer" "is_integer" sIsInteger f fd) (T : ChkTxt K mg) : FnOk P w K mg base CX0 1 f fd ["x"] spIntX := by
  refine F.ok scIsInteger (fun vs H Q E h => ?_) (fun cdv A outer s H vs Q E hr h => ?_)
  · obtain ⟨x, rfl, _⟩ := h
    rfl
  · obtain ⟨x, rfl, ob, k⟩ := h
    refine ⟨_, pss_one (ps_ret (pe_and (pe_callB call_isi (by rfl) T.isin PyProof.Rows.boot_isinstance (pa_cons (pv 0) (pa_cons (pe_bltn (v := .ty "int") (by rfl) T.int PyProof.Rows.boot_int rfl) pa_nil))) (pe_one (pe_not (pe_callB call_isi (by rfl) T.isin PyProof.Rows.boot_isinstance (pa_cons (pv 0) (pa_cons (pe_bltn (v := .ty "bool") (by rfl) T.bool (by decide +kernel) rfl) pa_nil))))))), ?_⟩
    cases ob with
    | int i =>
      refine ⟨_, rfl, _, _, _, _, true, rfl, .ty "int", .base (.int i), kit_ty (by decide +kernel), ?_⟩
      refine ⟨_, rfl, _, rfl, _, _, _, _, false, rfl, .ty "bool", .base (.int i), kit_ty (by decide +kernel), ?_⟩
      exact ⟨_, rfl, k⟩
    | bl b =>
      refine ⟨_, rfl, _, _, _, _, true, rfl, .ty "int", .base (.bl b), kit_ty (by decide +kernel), ?_⟩
      refine ⟨_, rfl, _, rfl, _, _, _, _, true, rfl, .ty "bool", .base (.bl b), kit_ty (by decide +kernel), ?_⟩
      exact ⟨_, rfl, k⟩
    | non =>
      refine ⟨_, rfl, _, _, _, _, false, rfl, .ty "int", .base .non, kit_ty (by decide +kernel), ?_⟩
      exact ⟨_, rfl, k⟩
    | str y =>
      refine ⟨_, rfl, _, _, _, _, false, rfl, .ty "int", .base (.str y), kit_ty (by decide +kernel), ?_⟩
      exact ⟨_, rfl, k⟩
    | tup a xs ha =>
      refine ⟨_, rfl, _, _, _, _, false, rfl, .ty "int", .base (.tup ha), kit_ty (by decide +kernel), ?_⟩
      exact ⟨_, rfl, k⟩
    | lst a xs ha =>
      refine ⟨_, rfl, _, _, _, _, false, rfl, .ty "int", .base (.lst ha), kit_ty (by decide +kernel), ?_⟩
      exact ⟨_, rfl, k⟩
def spBetX : Sp := fun vs H Q _ => ∃ (x : V) (a b : Int), vs = [x, .int a, .int b] ∧ Ob H x ∧ Q (.bl (inB x a b)) H
theorem okBetX {f fI : Addr} {fd fdI : FuncData} (F : Fun K "is_between" "is_between" sIsBetween f fd) (GI : DO P w K mg base 1 "is_integer" ["x"] spIntX fI fdI) :
    FnOk P w K mg base CX0 2 f fd ["x", "least", "most"] spBetX := by
  refine F.ok scIsBetween (fun vs H Q E h => ?_) (fun cdv A outer s H vs Q E hr h => ?_)
  · obtain ⟨x, y, z, rfl, _⟩ := h
    rfl
  · obtain ⟨x, a, b, rfl, ob, k⟩ := h
    refine ⟨_, pss_one (ps_ret (pe_and (pe_call GI.g hr (by rfl) GI.m GI.k GI.b .nil pass0 (pa_cons (pv 0) pa_nil)) (pe_one (pe_chain op_le op_le (pv 1) (pv 0) (pv 2))))), ?_⟩
    walk_at "wn"
    refine ⟨x, rfl, ob, ?_⟩
    walk_at "wn"
    by_cases hi : ∃ i, x = .int i
    · obtain ⟨i, rfl⟩ := hi
      refine ⟨_, rfl, _, rfl, a, i, rfl, rfl, _, rfl, ?_⟩
      have k : Q (.bl (decide (a ≤ i) && decide (i ≤ b))) H := k
      refine ite2 (fun hc => ?_) (fun hc => ?_)
      · rw [hc, Bool.true_and] at k
        exact ⟨_, rfl, i, b, rfl, rfl, k⟩
      · rw [Bool.eq_false_iff.mpr hc, Bool.false_and] at k
        exact k
    · have e : isI x = false := by cases x <;> first | rfl | exact absurd ⟨_, rfl⟩ hi
      have e2 : inB x a b = false := by cases x <;> first | rfl | exact absurd ⟨_, rfl⟩ hi
      rw [e2] at k
      rw [e]
      exact k
def spCountX : Sp := fun vs H Q _ => ∃ x : V, vs = [x] ∧ Ob H x ∧ Q (.bl (inB x 1 1000000)) H
def spLabelX : Sp := fun vs H Q _ => ∃ x : V, vs = [x] ∧ Ob H x ∧ Q (.bl (inB x 0 999999)) H
theorem okLabelX {f fB : Addr} {fd fdB : FuncData} (F : Fun K "is_label" "is_label" sIsLabel f fd) (T : ChkTxt K mg) (GB : DO P w K mg base 2 "is_between" ["x", "least", "most"] spBetX fB fdB) :
    FnOk P w K mg base CX0 3 f fd ["x"] spLabelX := by
  refine F.ok scIsLabel (fun vs H Q E h => ?_) (fun cdv A outer s H vs Q E hr h => ?_)
  · obtain ⟨x, rfl, _⟩ := h
    rfl
  · obtain ⟨i, rfl, ob, k⟩ := h
    obtain ⟨t, ht⟩ := T.label
    refine ⟨_, pss_one (ps_ret (pe_call GB.g hr (by rfl) GB.m GB.k GB.b .nil pass0 (pa_cons (pv 0) (pa_cons pe_int (pa_cons (pe_glob (v := .int 999999) (by rfl) ht ⟨_, rfl⟩) pa_nil))))), ?_⟩
    walk_at "wn"
    exact ⟨i, 0, 999999, rfl, ob, k⟩
def isW (x : V) : Bool := inV x [.str "level", .str "edge", .str "once"]
/-- what a word may be asked of: no object of the heap -/
def NoRef (x : V) : Prop := ∀ a, x ≠ .ref a
def spWordX : Sp := fun vs H Q _ => ∃ x : V, vs = [x] ∧ flatV x = true ∧ Q (.bl (isW x)) H
theorem okWordX {f : Addr} {fd : FuncData} (F : Fun K "is_word" "is_word" sIsWord f fd) (T : ChkTxt K mg) : FnOk P w K mg base CX0 1 f fd ["x"] spWordX := by
  refine F.ok scIsWord (fun vs H Q E h => ?_) (fun cdv A outer s H vs Q E hr h => ?_)
  · obtain ⟨x, rfl, _⟩ := h
    rfl
  · obtain ⟨x, rfl, hx, k⟩ := h
    obtain ⟨aW, gW, sW⟩ := T.words
    refine ⟨_, pss_one (ps_ret (pe_cmpR op_in_seq (pv 0) (pe_glob (v := .ref aW) (by rfl) gW rfl) (by rfl))), ?_⟩
    walk_at "wn"
    exact ⟨aW, _, rfl, .inr (sW _), hx, by decide, k⟩
/-! numbers of processes, numbers, things -/
def inP (S : Sys) : V → Bool
  | .int p => decide (p ∈ S.procs)
  | _ => false
def spContX (C : Cs) : Sp := fun vs H Q _ => ∃ x : V, OnSys C vs H [x] fun S _ _ => Ob H x ∧ Q (.bl (inP S x)) H
theorem okContX {f fI : Addr} {fd fdI : FuncData} (F : Fun K "__contains__" "System.__contains__" sContains f fd) (T : ClsF K C.S sysF) (GI : DO P w K mg base 1 "is_integer" ["x"] spIntX fI fdI) : FnOk P w K mg base CX0 2 f fd ["self", "x"] (spContX C) := by
  refine F.ok scContains (fun vs H Q E h => ?_) (fun cdv A outer s H vs Q E hr h => ?_)
  · obtain ⟨_, _, _, _, rfl, _⟩ := h
    rfl
  · obtain ⟨x, S, ad, dx, rfl, A0, ob, k⟩ := h
    have hu := hu_of hr
    refine ⟨_, pss_one (ps_ret (pe_and (pe_call GI.g hr (by rfl) GI.m GI.k GI.b .nil pass0 (pa_cons (pv 1) pa_nil)) (pe_one (pe_cmp (pc_din hu (pv 1) (pe_fld (pv 0) rfl)) rfl)))), ?_⟩
    walk_at "wn"
    refine ⟨x, rfl, ob, ?_⟩
    by_cases hi : ∃ p, x = .int p
    · obtain ⟨p, rfl⟩ := hi
      refine g_bl ?_
      refine iteT ?_
      refine ⟨_, rfl, _, rfl, ad .box, C.S, dx .box, _, _, rfl, A0.at_ .box trivial, T.cl, T.no _ (by decide), rfl, ?_⟩
      refine ⟨ad .tabD, _, rfl, DGet.k (k := Sum.inl p) (A0.at_ .tabD trivial), ?_⟩
      rw [ent_val]
      have k : Q (.bl (decide (p ∈ S.procs))) H := k
      by_cases hp : p ∈ S.procs
      · rw [if_pos hp]
        rw [decide_eq_true hp] at k
        exact k
      · rw [if_neg hp]
        rw [decide_eq_false hp] at k
        exact k
    · have e : isI x = false := by cases x <;> first | rfl | exact absurd ⟨_, rfl⟩ hi
      have e2 : inP S x = false := by cases x <;> first | rfl | exact absurd ⟨_, rfl⟩ hi
      rw [e2] at k
      rw [e]
      refine g_bl ?_
      exact iteF k
/-- a method that may raise -/
structure MX (P : Program) (w : World) (K : PySem.W.Frag) (mg : Str → Option Value) (base : Heap) (k : Nat) (C : Addr) (m : Str) (ps : List Str) (sp : Sp) (f : Addr) (fd : FuncData) : Prop where
  g : FnOk P w K mg base (L2.CX P w) k f fd ps sp
  m : Meth K C m f
  b : Binds K fd ps []
theorem inP_tab {S : Sys} {x : V} : (inP S x = true ∧ ∃ q, x = .int q ∧ q ∈ S.procs ∧ tabOf S x = .ok q) ∨ (inP S x = false ∧ tabOf S x = .error (.proc x)) := by
  by_cases hi : ∃ p, x = .int p
  · obtain ⟨p, rfl⟩ := hi
    by_cases hp : p ∈ S.procs
    · exact .inl ⟨decide_eq_true hp, p, rfl, hp, if_pos hp⟩
    · exact .inr ⟨decide_eq_false hp, if_neg hp⟩
  · exact .inr ⟨by cases x <;> first | rfl | exact absurd ⟨_, rfl⟩ hi, by cases x <;> first | rfl | exact absurd ⟨_, rfl⟩ hi⟩
def spTabX (C : Cs) (D : Es) : Sp := fun vs H Q E => ∃ p : V, OnSys C vs H [p] fun S ad _ => Flat H p ∧ Res D H E (tabOf S p) fun q => Q (.ref (ad (.tab q))) H
theorem okTabX {f fC : Addr} {fd fdC : FuncData} (F : Fun K "table_of" "System.table_of" sTableOf f fd) (T : ClsF K C.S sysF) (X : ErTx P w K mg base D) (GC : MO P w K mg base 2 C.S "__contains__" ["self", "x"] (spContX C) fC fdC) : FnOk P w K mg base (L2.CX P w) 3 f fd ["self", "process"] (spTabX C D) := by
  refine F.okX scTableOf (fun vs H Q E h => ?_) (fun cdv A outer s H vs Q E hr h => ?_)
  · obtain ⟨_, _, _, _, rfl, _⟩ := h
    rfl
  · obtain ⟨p, S, ad, dx, rfl, A0, fl, k⟩ := h
    have hu := hu_of hr
    refine ⟨_, pss_cons (ps_if (pt_cmpR (op_ownNotIn GC.g hr GC.m.at_ GC.m.fn GC.b pass0) (pv 1) (pv 0) (by rfl)) (pss_one (ps_thr X.proc bxLookup (takes_of rfl rfl rfl rfl) hr (pv 1))) pss_nil)
      (pss_one (ps_ret (pe_dget hu (pe_fld (pv 0) rfl) (pv 1) (fun _ _ => rfl)))), ?_⟩
    walk_at "wn"
    refine ⟨ad .box, dx .box, _, rfl, A0.at_ .box trivial, p, S, ad, dx, rfl, A0, fl.ob, _, rfl, ?_⟩
    rcases inP_tab (S := S) (x := p) with ⟨e1, q, rfl, hq, e2⟩ | ⟨e1, e2⟩
    · rw [e1]
      rw [e2] at k
      walk_at "wn"
      refine ⟨_, rfl, ad .box, C.S, dx .box, _, _, rfl, A0.at_ .box trivial, T.cl, T.no _ (by decide), rfl, ?_⟩
      have hv : valV (entKV S.procs fun p => ad (.tab p)) (Sum.inl q) = some (.ref (ad (.tab q))) := by rw [ent_val, if_pos hq]
      exact ⟨_, rfl, ad .tabD, _, rfl, hv ▸ DGet.k (k := Sum.inl q) (A0.at_ .tabD trivial), k⟩
    · rw [e1]
      rw [e2] at k
      walk_at "wn"
      exact g_thr rfl fl k
def spNumX (C : Cs) : Sp := fun vs H Q _ => ∃ n : V, OnSys C vs H [n] fun S _ _ => Ob H n ∧ Q (.bl (inB n 0 (S.N - 1))) H
theorem okNumX {f fB : Addr} {fd fdB : FuncData} (F : Fun K "is_table_number" "System.is_table_number" sIsTabNum f fd) (T : ClsF K C.S sysF) (GB : DO P w K mg base 2 "is_between" ["x", "least", "most"] spBetX fB fdB) : FnOk P w K mg base CX0 3 f fd ["self", "number"] (spNumX C) := by
  refine F.ok scIsTabNum (fun vs H Q E h => ?_) (fun cdv A outer s H vs Q E hr h => ?_)
  · obtain ⟨_, _, _, _, rfl, _⟩ := h
    rfl
  · obtain ⟨n, S, ad, dx, rfl, A0, ob, k⟩ := h
    refine ⟨_, pss_one (ps_ret (pe_call GB.g hr (by rfl) GB.m GB.k GB.b .nil pass0 (pa_cons (pv 1) (pa_cons pe_int (pa_cons (pe_op op_sub (pe_fld (pv 0) rfl) pe_int) pa_nil))))), ?_⟩
    walk_at "wn"
    refine ⟨_, rfl, ad .box, C.S, dx .box, _, _, rfl, A0.at_ .box trivial, T.cl, T.no _ (by decide), rfl, ?_⟩
    walk_at "wn"
    exact ⟨n, 0, S.N - 1, rfl, ob, k⟩
theorem num_at {S : Sys} {q : Int} {x : V} (tl : (S.tab q).length = S.N.toNat) : (∃ (j : Int) (m : Nat) (y : Option Int), x = .int j ∧ j = (m : Int) ∧ inB x 0 (S.N - 1) = true ∧ (S.tab q)[m]? = some y ∧ numAt S q x = match y with | some t => .ok t | none => .error (.open_ x)) ∨ (inB x 0 (S.N - 1) = false ∧ numAt S q x = .error (.open_ x)) := by
  by_cases hi : ∃ p, x = .int p
  · obtain ⟨j, rfl⟩ := hi
    by_cases hj : 0 ≤ j ∧ j ≤ S.N - 1
    · obtain ⟨m, rfl⟩ := Int.eq_ofNat_of_zero_le hj.1
      have hl : m < (S.tab q).length := by omega
      refine .inl ⟨_, m, (S.tab q)[m], rfl, rfl, ?_, List.getElem?_eq_getElem hl, ?_⟩
      · show (decide (0 ≤ (m : Int)) && decide ((m : Int) ≤ S.N - 1)) = true
        rw [decide_eq_true hj.1, decide_eq_true hj.2]
        rfl
      · show (if 0 ≤ (m : Int) ∧ (m : Int) ≤ S.N - 1 then _ else _) = _
        rw [if_pos hj, Int.toNat_natCast, List.getElem?_eq_getElem hl]
        cases (S.tab q)[m] <;> rfl
    · refine .inr ⟨?_, if_neg hj⟩
      show (decide (0 ≤ j) && decide (j ≤ S.N - 1)) = false
      by_cases h0 : 0 ≤ j
      · rw [decide_eq_false (fun z => hj ⟨h0, z⟩), Bool.and_false]
      · rw [decide_eq_false h0, Bool.false_and]
  · exact .inr ⟨by cases x <;> first | rfl | exact absurd ⟨_, rfl⟩ hi, by cases x <;> first | rfl | exact absurd ⟨_, rfl⟩ hi⟩
def spThingX (C : Cs) (D : Es) : Sp := fun vs H Q E => ∃ p n : V, OnSys C vs H [p, n] fun S _ _ => WF S ∧ Flat H p ∧ Flat H n ∧ Res D H E (thing S p n) fun t => Q (.int t) H
theorem okThingX {f fT fN : Addr} {fd fdT fdN : FuncData} (F : Fun K "thing_at" "System.thing_at" sThingAt f fd) (T : ClsF K C.S sysF) (X : ErTx P w K mg base D) (GT : MX P w K mg base 3 C.S "table_of" ["self", "process"] (spTabX C D) fT fdT) (GN : MO P w K mg base 3 C.S "is_table_number" ["self", "number"] (spNumX C) fN fdN) :
    FnOk P w K mg base (L2.CX P w) 4 f fd ["self", "process", "number"] (spThingX C D) := by
  refine F.okX scThingAt (fun vs H Q E h => ?_) (fun cdv A outer s H vs Q E hr h => ?_)
  · obtain ⟨_, _, _, _, _, rfl, _⟩ := h
    rfl
  · obtain ⟨p, n, S, ad, dx, rfl, A0, W, fp, fn, k⟩ := h
    refine ⟨_, pss_cons (ps_set (i := 3) scThingAt.nd rfl (Or.inl rfl) (pe_meth (pv 0) T.cl GT.m GT.g hr GT.b .nil (passX (takes_of rfl rfl rfl rfl)) (pa_cons (pv 1) pa_nil)))
      (pss_cons (ps_if (PW.pt (pw_or (pt_not (pt_val (pe_meth (pv 0) T.cl GN.m GN.g hr GN.b .nil pass0 (pa_cons (pv 2) pa_nil)))) (pw_or1 (pt_cmpR oIsN (pe_ix ix_list (pv 3) (pv 2) (fun _ _ => rfl)) pe_non (nomark _))))) (pss_one (ps_thr X.open_ bxLookup (takes_of rfl rfl rfl rfl) (hr.mono (by decide)) (pv 2))) pss_nil)
      (pss_one (ps_ret (pe_ix ix_list (pv 3) (pv 2) (fun _ _ => rfl))))), ?_⟩
    have hb := A0.at_ .box trivial
    walk_at "wn"
    refine ⟨_, rfl, ad .box, dx .box, _, rfl, hb, rfl, ?_⟩
    walk_at "wn"
    refine ⟨p, S, ad, dx, rfl, A0, fp, ?_⟩
    unfold thing at k
    cases et : tabOf S p with
    | error e =>
      rw [et] at k
      exact k
    | ok q =>
      rw [et] at k
      have k : Res D H E (numAt S q n) fun t => Q (.int t) H := k
      obtain ⟨rfl, hq⟩ := tabOf_ok et
      have ht := A0.at_ (.tab q) hq
      refine res_ok rfl ?_
      walk_at "wn"
      refine ⟨_, rfl, ad .box, dx .box, _, rfl, hb, rfl, ?_⟩
      walk_at "wn"
      refine ⟨n, S, ad, dx, rfl, A0, fn.ob, ?_⟩
      rcases num_at (q := q) (x := n) (W.tl q hq) with ⟨j, m, y, rfl, rfl, e1, e2, e3⟩ | ⟨e1, e3⟩
      · rw [e1]
        rw [e3] at k
        have hat : atI ((S.tab q).map optV) (m : Int) = some (optV y) := atI_nat (by rw [List.getElem?_map, e2]; rfl)
        refine ⟨_, rfl, ?_⟩
        walk_at "wn"
        refine ⟨ad (.tab q), _, (m : Int), _, rfl, rfl, SqL.of ht, hat, ?_⟩
        walk_at "wn"
        cases y with
        | none =>
          rw [decide_eq_true (show optV none = V.non from rfl)]
          walk_at "wn"
          exact g_thr rfl fn k
        | some t =>
          rw [decide_eq_false (show ¬ optV (some t) = V.non from fun z => nomatch z)]
          walk_at "wn"
          exact ⟨ad (.tab q), _, (m : Int), _, rfl, rfl, SqL.of ht, hat, k⟩
      · rw [e1]
        rw [e3] at k
        refine ⟨_, rfl, ?_⟩
        walk_at "wn"
        exact g_thr rfl fn k
def spSourceX (C : Cs) (D : Es) : Sp := fun vs H Q E => ∃ p n : V, OnSys C vs H [p, n] fun S _ _ => WF S ∧ Flat H p ∧ Flat H n ∧ Res D H E (source S p n) fun t => Q (.int t) H
theorem okSourceX {f fT : Addr} {fd fdT : FuncData} (F : Fun K "source_at" "System.source_at" sSourceAt f fd) (T : ClsF K C.S sysF) (X : ErTx P w K mg base D) (GT : MX P w K mg base 4 C.S "thing_at" ["self", "process", "number"] (spThingX C D) fT fdT) :
    FnOk P w K mg base (L2.CX P w) 5 f fd ["self", "process", "number"] (spSourceX C D) := by
  refine F.okX scSourceAt (fun vs H Q E h => ?_) (fun cdv A outer s H vs Q E hr h => ?_)
  · obtain ⟨_, _, _, _, _, rfl, _⟩ := h
    rfl
  · obtain ⟨p, n, S, ad, dx, rfl, A0, W, fp, fn, k⟩ := h
    have hu := hu_of hr
    refine ⟨_, pss_cons (ps_set (i := 3) scSourceAt.nd rfl (Or.inl rfl) (pe_meth (pv 0) T.cl GT.m GT.g hr GT.b .nil (passX (takes_of rfl rfl rfl rfl)) (pa_cons (pv 1) (pa_cons (pv 2) pa_nil))))
      (pss_cons (ps_if (pt_cmp (pc_dnotin hu (pv 3) (pe_fld (pv 0) rfl)) rfl) (pss_one (ps_thr X.nosrc bxType (takes_of rfl rfl rfl rfl) (hr.mono (by decide)) (pv 2))) pss_nil)
      (pss_one (ps_ret (pv 3)))), ?_⟩
    have hb := A0.at_ .box trivial
    walk_at "wn"
    refine ⟨_, rfl, ad .box, dx .box, _, rfl, hb, rfl, ?_⟩
    walk_at "wn"
    refine ⟨p, n, S, ad, dx, rfl, A0, W, fp, fn, ?_⟩
    unfold source at k
    cases et : thing S p n with
    | error e =>
      rw [et] at k
      exact k
    | ok t =>
      rw [et] at k
      have k : Res D H E (if t ∈ S.srcs then .ok t else .error (.nosrc n)) fun t => Q (.int t) H := k
      refine res_ok rfl ?_
      walk_at "wn"
      refine ⟨_, rfl, _, rfl, ad .box, C.S, dx .box, _, _, rfl, hb, T.cl, T.no _ (by decide), rfl, ?_⟩
      refine ⟨ad .srcD, _, rfl, DGet.k (k := Sum.inl t) (A0.at_ .srcD trivial), ?_⟩
      rw [ent_val]
      by_cases ht : t ∈ S.srcs
      · rw [if_pos ht] at k ⊢
        refine ⟨_, rfl, ?_⟩
        show if false = true then _ else _
        walk_at "wn"
        exact k
      · rw [if_neg ht] at k ⊢
        refine ⟨_, rfl, ?_⟩
        show if true = true then _ else _
        walk_at "wn"
        exact g_thr rfl fn k
def spSetX (C : Cs) (D : Es) : Sp := fun vs H Q E => ∃ p n : V, OnSys C vs H [p, n] fun S ad _ => WF S ∧ Flat H p ∧ Flat H n ∧ Res D H E (setOf S p n) fun t => Q (.ref (ad (.ws t))) H
theorem okSetX {f fT : Addr} {fd fdT : FuncData} (F : Fun K "set_at" "System.set_at" sSetAt f fd) (T : ClsF K C.S sysF) (X : ErTx P w K mg base D) (GT : MX P w K mg base 4 C.S "thing_at" ["self", "process", "number"] (spThingX C D) fT fdT) :
    FnOk P w K mg base (L2.CX P w) 5 f fd ["self", "process", "set_number"] (spSetX C D) := by
  refine F.okX scSetAt (fun vs H Q E h => ?_) (fun cdv A outer s H vs Q E hr h => ?_)
  · obtain ⟨_, _, _, _, _, rfl, _⟩ := h
    rfl
  · obtain ⟨p, n, S, ad, dx, rfl, A0, W, fp, fn, k⟩ := h
    have hu := hu_of hr
    refine ⟨_, pss_cons (ps_set (i := 3) scSetAt.nd rfl (Or.inl rfl) (pe_meth (pv 0) T.cl GT.m GT.g hr GT.b .nil (passX (takes_of rfl rfl rfl rfl)) (pa_cons (pv 1) (pa_cons (pv 2) pa_nil))))
      (pss_cons (ps_if (pt_cmp (pc_dnotin hu (pv 3) (pe_fld (pv 0) rfl)) rfl) (pss_one (ps_thr X.noset bxType (takes_of rfl rfl rfl rfl) (hr.mono (by decide)) (pv 2))) pss_nil)
      (pss_one (ps_ret (pe_dget hu (pe_fld (pv 0) rfl) (pv 3) (fun _ _ => rfl))))), ?_⟩
    have hb := A0.at_ .box trivial
    walk_at "wn"
    refine ⟨_, rfl, ad .box, dx .box, _, rfl, hb, rfl, ?_⟩
    walk_at "wn"
    refine ⟨p, n, S, ad, dx, rfl, A0, W, fp, fn, ?_⟩
    unfold setOf at k
    cases et : thing S p n with
    | error e =>
      rw [et] at k
      exact k
    | ok t =>
      rw [et] at k
      have k : Res D H E (if t ∈ S.sets then .ok t else .error (.noset n)) fun t => Q (.ref (ad (.ws t))) H := k
      refine res_ok rfl ?_
      walk_at "wn"
      refine ⟨_, rfl, _, rfl, ad .box, C.S, dx .box, _, _, rfl, hb, T.cl, T.no _ (by decide), rfl, ?_⟩
      refine ⟨ad .setD, _, rfl, DGet.k (k := Sum.inl t) (A0.at_ .setD trivial), ?_⟩
      rw [ent_val]
      by_cases ht : t ∈ S.sets
      · rw [if_pos ht] at k ⊢
        refine ⟨_, rfl, ?_⟩
        show if false = true then _ else _
        walk_at "wn"
        refine ⟨_, rfl, ad .box, C.S, dx .box, _, _, rfl, hb, T.cl, T.no _ (by decide), rfl, ?_⟩
        have hv : valV (entKV S.sets fun s => ad (.ws s)) (Sum.inl t) = some (.ref (ad (.ws t))) := by rw [ent_val, if_pos ht]
        exact ⟨_, rfl, ad .setD, _, rfl, hv ▸ DGet.k (k := Sum.inl t) (A0.at_ .setD trivial), k⟩
      · rw [if_neg ht] at k ⊢
        refine ⟨_, rfl, ?_⟩
        show if true = true then _ else _
        walk_at "wn"
        exact g_thr rfl fn k
end

/-! the lowest free number -/
def firstN : List (Option Int) → Option Nat
  | [] => none
  | none :: _ => some 0
  | some _ :: l => (firstN l).map (· + 1)
def Ful (t : List (Option Int)) : Prop := ∀ i, i < t.length → ∃ x, t[i]? = some (some x)
theorem firstN_some : ∀ {l : List (Option Int)} {n : Nat}, firstN l = some n → firstFree l n
  | [], _, h => by cases h
  | none :: l, n, h => by
    cases h
    exact ⟨rfl, fun i hi => absurd hi (Nat.not_lt_zero _)⟩
  | some x :: l, n, h => by
    obtain ⟨m, hm, rfl⟩ := Option.map_eq_some_iff.mp (show (firstN l).map (· + 1) = some n from h)
    obtain ⟨a, b⟩ := firstN_some hm
    refine ⟨a, fun i hi => ?_⟩
    cases i with
    | zero => exact ⟨x, rfl⟩
    | succ i => exact b i (by omega)
theorem firstN_none : ∀ {l : List (Option Int)}, firstN l = none → Ful l
  | [], _, i, hi => absurd hi (Nat.not_lt_zero _)
  | none :: l, h, _, _ => by cases h
  | some x :: l, h, i, hi => by
    have h : (firstN l).map (· + 1) = none := h
    cases i with
    | zero => exact ⟨x, rfl⟩
    | succ i => exact firstN_none (Option.map_eq_none_iff.mp h) i (Nat.lt_of_succ_lt_succ hi)
theorem firstFree_uniq {l : List (Option Int)} {m n : Nat} (a : firstFree l m) (b : firstFree l n) : m = n := by
  rcases Nat.lt_trichotomy m n with h | h | h
  · obtain ⟨x, e⟩ := b.2 m h
    rw [a.1] at e
    cases e
  · exact h
  · obtain ⟨x, e⟩ := a.2 n h
    rw [b.1] at e
    cases e
theorem firstN_of {l : List (Option Int)} {n : Nat} (h : firstFree l n) : firstN l = some n := by
  cases e : firstN l with
  | none =>
    obtain ⟨x, ex⟩ := firstN_none e n (List.getElem?_eq_some_iff.mp h.1).1
    rw [h.1] at ex
    cases ex
  | some m => rw [firstFree_uniq (firstN_some e) h]
def freeOf (S : Sys) (p : V) : Except Er (Int × Nat) := match tabOf S p with
  | .ok q => (match firstN (S.tab q) with
    | some n => .ok (q, n)
    | none => .error (.full p))
  | .error e => .error e
theorem freeOf_ok {S : Sys} {x : V} {p : Int} {n : Nat} (h : freeOf S x = .ok (p, n)) : x = .int p ∧ p ∈ S.procs ∧ firstFree (S.tab p) n := by
  unfold freeOf at h
  split at h
  · rename_i q hq
    split at h
    · rename_i m hm
      cases h
      obtain ⟨a, b⟩ := tabOf_ok hq
      exact ⟨a, b, firstN_some hm⟩
    · cases h
  · cases h
theorem freeOf_of {S : Sys} {p : Int} {n : Nat} (hp : p ∈ S.procs) (h : firstFree (S.tab p) n) : freeOf S (.int p) = .ok (p, n) := by
  unfold freeOf
  rw [tabOf_of hp]
  show (match firstN (S.tab p) with | some n => _ | none => _) = _
  rw [firstN_of h]
section
variable {P : Program} {w : World} {K : PySem.W.Frag} {mg : Str → Option Value} {base : Heap} {C : Cs} {D : Es}
def spFreeX (C : Cs) (D : Es) : Sp := fun vs H Q E => ∃ x : V, OnSys C vs H [x] fun S _ _ => WF S ∧ Flat H x ∧ Res D H E (freeOf S x) fun r => ∀ H', Same H H' → Q (.int (r.2 : Int)) H'
theorem okFreeX {f fT : Addr} {fd fdT : FuncData} (F : Fun K "free_number" "System.free_number" sFreeNum f fd) (X : SysTxt mg) (T : ClsF K C.S sysF) (R : ErTx P w K mg base D) (GT : MX P w K mg base 3 C.S "table_of" ["self", "process"] (spTabX C D) fT fdT) :
    FnOk P w K mg base (L2.CX P w) 4 f fd ["self", "process"] (spFreeX C D) := by
  refine F.okX scFreeNum (fun vs H Q E h => ?_) (fun cdv A outer s H vs Q E hr h => ?_)
  · obtain ⟨_, _, _, _, rfl, _⟩ := h
    rfl
  · obtain ⟨x, S, ad, dx, rfl, A0, W, fl, k⟩ := h
    have hr2 : Room 2 _ := hr.mono (by decide)
    refine ⟨_, pss_cons (ps_for PassesOwn.leaving rfl (pi_enum (by rfl) X.enum (pa_cons (pe_meth (pv 0) T.cl GT.m GT.g hr GT.b .nil (passX (takes_of rfl rfl rfl rfl)) (pa_cons (pv 1) pa_nil)) pa_nil)) (pg_tup rfl (pgs_cons (pg_name (i := 2) scFreeNum.nd rfl (Or.inl rfl)) (pgs_cons (pg_name (i := 3) scFreeNum.nd rfl (Or.inl rfl)) pgs_nil)))
        (pss_one (ps_if (pt_cmpR oIsN (pv 3) pe_non (nomark _)) (pss_one (ps_ret (pv 2))) pss_nil)))
      (pss_one (ps_thr R.full bxOverflow (takes_of rfl rfl rfl rfl) hr2 (pv 1))), ?_⟩
    have hb := A0.at_ .box trivial
    refine ⟨_, rfl, ad .box, dx .box, _, rfl, hb, rfl, ?_⟩
    walk_at "wn"
    refine ⟨x, S, ad, dx, rfl, A0, fl, ?_⟩
    unfold freeOf at k
    cases et : tabOf S x with
    | error e =>
      rw [et] at k
      exact k
    | ok p =>
      rw [et] at k
      obtain ⟨rfl, hp⟩ := tabOf_ok et
      have k : Res D H E (match firstN (S.tab p) with
        | some n => .ok (p, n)
        | none => .error (.full (.int p))) fun r => ∀ H', Same H H' → Q (.int (r.2 : Int)) H' := k
      have k1 : ∀ n, firstFree (S.tab p) n → ∀ H', Same H H' → Q (.int (n : Int)) H' := fun n h => by
        rw [firstN_of h] at k
        exact k
      have k2 : Ful (S.tab p) → OutV D.full "process" (.int p) H E := fun h => by
        cases e : firstN (S.tab p) with
        | none =>
          rw [e] at k
          exact k
        | some n =>
          obtain ⟨y, ey⟩ := h n (List.getElem?_eq_some_iff.mp (firstN_some e).1).1
          rw [(firstN_some e).1] at ey
          cases ey
      have ht := A0.at_ (.tab p) hp
      refine res_ok rfl ?_
      refine ⟨ad (.tab p), _, rfl, SqL.of ht, ?_⟩
      refine for_it (walk_enum (xs := (S.tab p).map optV)) (fun i σ' H1 => ∃ u v : Option V, σ' = [some (.ref (ad .box)), some (.int p), u, v] ∧ Same H H1 ∧ ∀ j, j < i → ∃ x, (S.tab p)[j]? = some (some x)) ⟨_, _, rfl, Same.refl _, fun j h => absurd h (Nat.not_lt_zero _)⟩ (fun i σ' H1 _ ⟨_, _, _, sm, _⟩ => Same.seq sm (SqL.of ht)) ?_ ?_
      · rintro i x σ' H1 H2 hi ⟨u, v, rfl, sm, hlo⟩ ⟨T1, x1, y1, rfl, nT, rfl, ex, ey⟩
        have smT := sm.trans (Same.new' (o := .tup [x1, y1]) nT)
        obtain rfl := Option.some.inj ex
        have ey : ((S.tab p).map optV)[i]? = some y1 := ey
        rw [List.getElem?_map] at ey
        refine ⟨T1, _, rfl, SqT.of upd_same, rfl, _, _, rfl, ?_⟩
        walk_at "wn"
        refine ⟨_, _, rfl, ?_⟩
        walk_at "wn"
        refine ⟨rfl, ?_⟩
        walk_at "wn"
        cases et : (S.tab p)[i]? with
        | none => rw [et] at ey; cases ey
        | some x =>
        rw [et] at ey
        cases ey
        cases x with
        | some t =>
          have e : decide (optV (some t) = V.non) = false := decide_eq_false fun z => nomatch z
          rw [e]
          walk_at "wn"
          refine ⟨_, _, rfl, smT, fun j hj => ?_⟩
          rcases Nat.lt_or_ge j i with z | z
          · exact hlo j z
          · obtain rfl : j = i := by omega
            exact ⟨t, et⟩
        | none =>
          have e : decide (optV none = V.non) = true := decide_eq_true rfl
          rw [e]
          walk_at "wn"
          exact k1 i ⟨et, hlo⟩ _ smT
      · rintro σ' H1 ⟨u, v, rfl, sm, hlo⟩
        rw [List.length_map] at hlo
        exact g_thrD rfl (fl.same sm) (OutV.same (k2 hlo) sm)
/-! new_thing, new_source, new_set -/
def spNewThingX (C : Cs) (D : Es) : Sp := fun vs H Q E => ∃ x : V, OnSys C vs H [x] fun S ad dx => WF S ∧ Flat H x ∧ Res D H E (freeOf S x) fun r => ∀ H' T, H T = none → H' T = some (.tup [.int (r.2 : Int), .int S.next]) → At C H' (newThing S r.1 r.2) ad dx → Step H S ad H' (newThing S r.1 r.2) ad → Q (.ref T) H'
theorem okNewThingX {f fF : Addr} {fd fdF : FuncData} (F : Fun K "new_thing" "System.new_thing" sNewThing f fd) (T : ClsF K C.S sysF) (GF : MX P w K mg base 4 C.S "free_number" ["self", "process"] (spFreeX C D) fF fdF) :
    FnOk P w K mg base (L2.CX P w) 5 f fd ["self", "process"] (spNewThingX C D) := by
  refine F.okX scNewThing (fun vs H Q E h => ?_) (fun cdv A outer s H vs Q E hr h => ?_)
  · obtain ⟨_, _, _, _, rfl, _⟩ := h
    rfl
  · obtain ⟨x, S, ad, dx, rfl, A0, W, fl, k⟩ := h
    have hu := hu_of hr
    refine ⟨_, pss_cons (ps_set (i := 2) scNewThing.nd rfl (Or.inl rfl) (pe_meth (pv 0) T.cl GF.m GF.g hr GF.b .nil (passX (takes_of rfl rfl rfl rfl)) (pa_cons (pv 1) pa_nil)))
      (pss_cons (ps_set (i := 3) scNewThing.nd rfl (Or.inl rfl) (pe_fld (pv 0) rfl))
      (pss_cons (ps_fldaug (pv 0) pe_int in_add)
      (pss_cons (ps_asg (pv 3) (pg_sub (pe_dget hu (pe_fld (pv 0) rfl) (pv 1) (fun _ _ => rfl)) (pv 2) set_list))
      (pss_one (ps_ret (pe_tup (pa_cons (pv 2) (pa_cons (pv 3) pa_nil)))))))), ?_⟩
    walk_at "wn"
    refine ⟨_, rfl, ad .box, dx .box, _, rfl, A0.at_ .box trivial, rfl, ?_⟩
    walk_at "wn"
    refine ⟨x, S, ad, dx, rfl, A0, W, fl, ?_⟩
    cases et : freeOf S x with
    | error e =>
      rw [et] at k
      exact k
    | ok r =>
    obtain ⟨p, n⟩ := r
    rw [et] at k
    obtain ⟨rfl, hp, hf⟩ := freeOf_ok et
    refine res_ok rfl (fun H1 s1 => ?_)
    have A1 := A0.same s1
    have hb := A1.at_ .box trivial
    have ht := A1.at_ (.tab p) hp
    have nbt : ad .box ≠ ad (.tab p) := A1.ne (c := .box) (c' := .tab p) trivial hp (by intro z; cases z)
    have nbd : ad .tabD ≠ ad .box := A1.ne (c := .tabD) (c' := .box) trivial trivial (by intro z; cases z)
    walk_at "wn"
    refine ⟨_, rfl, ad .box, C.S, dx .box, _, _, rfl, hb, T.cl, T.no _ (by decide), rfl, ?_⟩
    walk_at "wn"
    refine ⟨_, rfl, ad .box, C.S, dx .box, _, _, rfl, hb, T.cl, T.no _ (by decide), rfl, ?_⟩
    refine ⟨_, _, rfl, rfl, ?_⟩
    refine ⟨_, _, hb, by show 6 < 1000; decide, ?_⟩
    walk_at "wn"
    have hv : valV (entKV S.procs fun p => ad (.tab p)) (Sum.inl p) = some (.ref (ad (.tab p))) := by rw [ent_val, if_pos hp]
    refine ⟨_, rfl, ad .box, C.S, dx .box, _, _, rfl, upd_same, T.cl, T.no _ (by decide), rfl, ?_⟩
    refine ⟨_, rfl, ad .tabD, _, rfl, hv ▸ DGet.k (k := Sum.inl p) (by rw [upd_ne nbd]; exact A1.at_ .tabD trivial), ?_⟩
    have hn : n < (S.tab p).length := (List.getElem?_eq_some_iff.mp hf.1).1
    refine ⟨_, rfl, ad (.tab p), _, _, n, rfl, rfl, by rw [upd_ne (Ne.symm nbt)]; exact ht, by rw [List.length_map]; exact ixN_nat hn, ?_⟩
    walk_at "wn"
    refine ⟨by show 2 ≤ sizeLine; decide, fun T1 hT => ?_⟩
    have nTt : T1 ≠ ad (.tab p) := fun z => by rw [z, upd_same] at hT; cases hT
    rw [upd_ne nTt] at hT
    have nTb : T1 ≠ ad .box := fun z => by rw [z, upd_same] at hT; cases hT
    rw [upd_ne nTb] at hT
    refine (fun z : At C _ _ _ _ ∧ Step _ _ _ _ _ _ => k _ T1 (s1.free hT) upd_same z.1 ((Step.same s1).trans z.2)) ?_
    refine At.re2 [.box, .tab p] A1 (fun c l => by cases c <;> exact l) (fun c hc => ?_) (fun c hc => ?_) (fun c hc l => ?_) (fun b o n e => ?_)
    · simp only [List.mem_cons, List.not_mem_nil, or_false] at hc
      rcases hc with rfl | rfl
      · exact trivial
      · exact hp
    · simp only [List.mem_cons, List.not_mem_nil, or_false] at hc
      rcases hc with rfl | rfl
      · rw [upd_ne (Ne.symm nTb), upd_ne nbt, upd_same]
        rfl
      · rw [upd_ne (Ne.symm nTt), upd_same]
        show _ = some (HO.lst ((if p = p then (S.tab p).set n (some S.next) else S.tab p).map optV))
        rw [if_pos rfl, List.map_set]
        rfl
    · cases c with
      | box => exact absurd List.mem_cons_self hc
      | tab q =>
        have nq : q ≠ p := fun z => hc (by rw [z]; simp)
        show HO.lst ((if q = p then (S.tab p).set n (some S.next) else S.tab q).map optV) = _
        rw [if_neg nq]
        rfl
      | _ => rfl
    · have n1 := n .box (by simp)
      have n2 := n (.tab p) (by simp)
      rw [upd_ne (ne_of_none e hT), upd_ne n2, upd_ne n1]
      exact e
def spNewSourceX (C : Cs) (D : Es) : Sp := fun vs H Q E => ∃ x : V, OnSys C vs H [x] fun S ad dx => WF S ∧ Flat H x ∧ Res D H E (freeOf S x) fun r => ∀ H' ad', At C H' (newSource S r.1 r.2) ad' dx → Step H S ad H' (newSource S r.1 r.2) ad' → Q (.int (r.2 : Int)) H'
theorem okNewSourceX {f fN : Addr} {fd fdN : FuncData} (F : Fun K "new_source" "System.new_source" sNewSource f fd) (T : ClsF K C.S sysF) (GN : MX P w K mg base 5 C.S "new_thing" ["self", "process"] (spNewThingX C D) fN fdN) :
    FnOk P w K mg base (L2.CX P w) 6 f fd ["self", "process"] (spNewSourceX C D) := by
  refine F.okX scNewSource (fun vs H Q E h => ?_) (fun cdv A outer s H vs Q E hr h => ?_)
  · obtain ⟨_, _, _, _, rfl, _⟩ := h
    rfl
  · obtain ⟨x, S, ad, dx, rfl, A0, W, fl, k⟩ := h
    have hu := hu_of hr
    refine ⟨_, pss_cons (ps_asg (pe_meth (pv 0) T.cl GN.m GN.g hr GN.b .nil (passX (takes_of rfl rfl rfl rfl)) (pa_cons (pv 1) pa_nil)) (pg_tup rfl (pgs_cons (pg_name (i := 2) scNewSource.nd rfl (Or.inl rfl)) (pgs_cons (pg_name (i := 3) scNewSource.nd rfl (Or.inl rfl)) pgs_nil))))
      (pss_cons (ps_dput hu (pe_fld (pv 0) rfl) (pv 3) (pe_tup (pa_cons pe_int (pa_cons pe_bl pa_nil))) rfl) (pss_one (ps_ret (pv 2)))), ?_⟩
    walk_at "wn"
    refine ⟨_, rfl, ad .box, dx .box, _, rfl, A0.at_ .box trivial, rfl, ?_⟩
    walk_at "wn"
    refine ⟨x, S, ad, dx, rfl, A0, W, fl, ?_⟩
    cases et : freeOf S x with
    | error e =>
      rw [et] at k
      exact k
    | ok r =>
    obtain ⟨p, n⟩ := r
    rw [et] at k
    obtain ⟨rfl, hp, hf⟩ := freeOf_ok et
    have hnx := W.next_out.1
    have hz := W.srcs_len
    refine res_ok rfl (fun H1 T1 hT1 hT A1 st1 => ?_)
    refine ⟨T1, _, rfl, SqT.of hT, rfl, _, _, rfl, ?_⟩
    walk_at "wn"
    refine ⟨_, _, rfl, ?_⟩
    walk_at "wn"
    refine ⟨rfl, ?_⟩
    walk_at "wn"
    refine ⟨by show 2 ≤ sizeLine; decide, fun T2 hT2 => ?_⟩
    have hb := A1.at_ .box trivial
    have hD : H1 (ad .srcD) = some (.dK (entKV S.srcs fun t => ad (.srcT t))) := A1.at_ .srcD trivial
    have nTD : T2 ≠ ad .srcD := fun z => by rw [z, hD] at hT2; cases hT2
    have nTb : ad .box ≠ T2 := ne_of_none hb hT2
    refine ⟨_, rfl, ad .box, C.S, dx .box, _, _, rfl, by rw [upd_ne nTb]; exact hb, T.cl, T.no _ (by decide), rfl, ?_⟩
    refine ⟨_, rfl, ad .srcD, _, rfl, DPut.k (k := Sum.inl S.next) (by rw [upd_ne (Ne.symm nTD)]; exact hD) (by unfold entKV; rw [List.length_map, sizeLine_eq]; omega), ?_⟩
    walk_at "wn"
    refine (fun z : At C _ _ _ _ ∧ Step H1 (newThing S p n) ad _ _ _ => k _ (setA ad (.srcT S.next) T2) z.1 (st1.trans z.2)) ?_
    refine At.re3 [.srcD, .srcT S.next] A1 (fun c lc => ?_) (fun c hc lc => ?_) (fun c hc lc => ?_) (fun c hc lc => ?_) (fun c hc c' hc' lc lc' z e => ?_) (fun b o nb e => ?_) (setA_ne (by intro z; cases z))
    · cases c with
      | srcT t =>
        rcases List.mem_append.mp (show t ∈ S.srcs ++ [S.next] from lc) with y | y
        · exact .inr y
        · rw [List.mem_singleton.mp y]
          exact .inl (by simp)
      | _ => exact .inr lc
    · simp only [List.mem_cons, List.not_mem_nil, or_false] at hc
      rcases hc with rfl | rfl
      · rw [setA_ne (by intro z; cases z), upd_same, ent_put, if_neg hnx, srcT_fun]
        rfl
      · rw [setA_same, upd_ne nTD, upd_same]
        show _ = some (HO.tup [.int (if S.next = S.next then ((0 : Int), false) else S.unit S.next).1, .bl (if S.next = S.next then ((0 : Int), false) else S.unit S.next).2])
        rw [if_pos rfl]
    · have n1 : c ≠ .srcD := fun z => hc (by rw [z]; simp)
      have n2 : c ≠ .srcT S.next := fun z => hc (by rw [z]; simp)
      refine ⟨setA_ne n2, ?_⟩
      cases c with
      | srcD => exact absurd rfl n1
      | srcT j =>
        have nj : j ≠ S.next := fun z => n2 (by rw [z])
        show HO.tup [.int (if j = S.next then ((0 : Int), false) else S.unit j).1, .bl (if j = S.next then ((0 : Int), false) else S.unit j).2] = _
        rw [if_neg nj]
        rfl
      | _ => rfl
    · simp only [List.mem_cons, List.not_mem_nil, or_false] at hc
      rcases hc with rfl | rfl
      · exact .inl ⟨setA_ne (by intro z; cases z), trivial⟩
      · exact .inr (by rw [setA_same]; exact hT2)
    · simp only [List.mem_cons, List.not_mem_nil, or_false] at hc hc'
      rcases hc with rfl | rfl
      · rw [setA_ne (by intro z; cases z), hD] at z
        cases z
      · rcases hc' with rfl | rfl
        · rw [setA_same, setA_ne (by intro z; cases z)] at e
          exact absurd e nTD
        · rfl
    · rw [upd_ne (nb .srcD (by simp) trivial), upd_ne (ne_of_none e hT2)]
      exact e
def spNewSetX (C : Cs) (D : Es) : Sp := fun vs H Q E => ∃ x : V, OnSys C vs H [x] fun S ad dx => WF S ∧ Flat H x ∧ Res D H E (freeOf S x) fun r => ∀ H' ad' dx', At C H' (newSet S r.1 r.2) ad' dx' → Step H S ad H' (newSet S r.1 r.2) ad' → Q (.int (r.2 : Int)) H'
theorem okNewSetX {f fN fI : Addr} {fd fdN fdI : FuncData} (F : Fun K "new_set" "System.new_set" sNewSet f fd) (T : ClsF K C.S sysF) (GN : MX P w K mg base 5 C.S "new_thing" ["self", "process"] (spNewThingX C D) fN fdN)
    (gW : mg "WaitingSet" = some (.ref C.W)) (MW : Mk K C.W fI) (GI : FnOk P w K mg base CX0 1 fI fdI ["self"] (spWsInit C.W)) (bI : Binds K fdI ["self"] []) :
    FnOk P w K mg base (L2.CX P w) 6 f fd ["self", "process"] (spNewSetX C D) := by
  refine F.okX scNewSet (fun vs H Q E h => ?_) (fun cdv A outer s H vs Q E hr h => ?_)
  · obtain ⟨_, _, _, _, rfl, _⟩ := h
    rfl
  · obtain ⟨x0, S, ad, dx, rfl, A0, W, fl, k⟩ := h
    have hu := hu_of hr
    have hr2 : Room 2 _ := hr.mono (by decide)
    refine ⟨_, pss_cons (ps_asg (pe_meth (pv 0) T.cl GN.m GN.g hr GN.b .nil (passX (takes_of rfl rfl rfl rfl)) (pa_cons (pv 1) pa_nil)) (pg_tup rfl (pgs_cons (pg_name (i := 2) scNewSet.nd rfl (Or.inl rfl)) (pgs_cons (pg_name (i := 3) scNewSet.nd rfl (Or.inl rfl)) pgs_nil))))
      (pss_cons (ps_dput hu (pe_fld (pv 0) rfl) (pv 3) (pe_make0 MW GI hr2 (by rfl) gW bI .nil pass0) rfl) (pss_one (ps_ret (pv 2)))), ?_⟩
    walk_at "wn"
    refine ⟨_, rfl, ad .box, dx .box, _, rfl, A0.at_ .box trivial, rfl, ?_⟩
    walk_at "wn"
    refine ⟨x0, S, ad, dx, rfl, A0, W, fl, ?_⟩
    cases et : freeOf S x0 with
    | error e =>
      rw [et] at k
      exact k
    | ok r =>
    obtain ⟨p, n⟩ := r
    rw [et] at k
    obtain ⟨rfl, hp, hf⟩ := freeOf_ok et
    have hnx := W.next_out.2
    have hz := W.sets_len
    refine res_ok rfl (fun H1 T1 hT1 hT A1 st1 => ?_)
    refine ⟨T1, _, rfl, SqT.of hT, rfl, _, _, rfl, ?_⟩
    walk_at "wn"
    refine ⟨_, _, rfl, ?_⟩
    walk_at "wn"
    refine ⟨rfl, ?_⟩
    refine (fun x dx2 hx hdx ndx => ?_ : ∀ x dx2, _ → _ → _ → _)
    refine ⟨x, dx2, rfl, upd_same, fun H2 e q he hq h2e h2q h2x h2 => ⟨rfl, ?_⟩⟩
    have nex : e ≠ x := fun z => by rw [z, upd_same] at he; cases he
    have nqx : q ≠ x := fun z => by rw [z, upd_same] at hq; cases hq
    rw [upd_ne nex] at he
    rw [upd_ne nqx] at hq
    have ned : e ≠ dx2 := fun z => by rw [z, upd_same] at he; cases he
    have nqd : q ≠ dx2 := fun z => by rw [z, upd_same] at hq; cases hq
    rw [upd_ne ned] at he
    rw [upd_ne nqd] at hq
    have neq : e ≠ q := fun z => by rw [z, h2q] at h2e; cases h2e
    have s2 : Same H1 H2 := fun b o y => by
      rw [h2 b (ne_of_none y hx) (ne_of_none y he) (ne_of_none y hq), upd_ne (ne_of_none y hx), upd_ne (ne_of_none y hdx)]
      exact y
    have A2 := A1.same s2
    have hb := A2.at_ .box trivial
    have hD : H2 (ad .setD) = some (.dK (entKV S.sets fun t => ad (.ws t))) := A2.at_ .setD trivial
    have hD1 : H1 (ad .setD) = some (.dK (entKV S.sets fun t => ad (.ws t))) := A1.at_ .setD trivial
    have nxD : x ≠ ad .setD := fun z => by rw [z, hD1] at hx; cases hx
    have neD : e ≠ ad .setD := fun z => by rw [z, hD1] at he; cases he
    have nqD : q ≠ ad .setD := fun z => by rw [z, hD1] at hq; cases hq
    refine ⟨_, rfl, ad .box, C.S, dx .box, _, _, rfl, hb, T.cl, T.no _ (by decide), rfl, ?_⟩
    refine ⟨_, rfl, ad .setD, _, rfl, DPut.k (k := Sum.inl S.next) hD (by unfold entKV; rw [List.length_map, sizeLine_eq]; omega), ?_⟩
    walk_at "wn"
    have wf : (fun j => if j = S.next then x else ad (.ws j)) = fun j => setA (setA (setA ad (.ws S.next) x) (.ent S.next) e) (.que S.next) q (.ws j) := by
      funext j
      rw [setA_ne (by intro z; cases z), setA_ne (by intro z; cases z)]
      by_cases h : j = S.next
      · rw [if_pos h, h, setA_same]
      · rw [if_neg h, setA_ne fun z => h (by cases z; rfl)]
    have aw : setA (setA (setA ad (.ws S.next) x) (.ent S.next) e) (.que S.next) q (.ws S.next) = x := by rw [setA_ne (by intro z; cases z), setA_ne (by intro z; cases z), setA_same]
    have ae : setA (setA (setA ad (.ws S.next) x) (.ent S.next) e) (.que S.next) q (.ent S.next) = e := by rw [setA_ne (by intro z; cases z), setA_same]
    have aq : setA (setA (setA ad (.ws S.next) x) (.ent S.next) e) (.que S.next) q (.que S.next) = q := setA_same
    have ao : ∀ c, c ≠ .ws S.next → c ≠ .ent S.next → c ≠ .que S.next → setA (setA (setA ad (.ws S.next) x) (.ent S.next) e) (.que S.next) q c = ad c := fun c h1 h2 h3 => by rw [setA_ne h3, setA_ne h2, setA_ne h1]
    refine (fun z : At C _ _ _ _ ∧ Step H1 (newThing S p n) ad _ _ _ => k _ (setA (setA (setA ad (.ws S.next) x) (.ent S.next) e) (.que S.next) q) (setA dx (.ws S.next) dx2) z.1 (st1.trans z.2)) ?_
    refine At.re3 [.setD, .ws S.next, .ent S.next, .que S.next] A1 (fun c lc => ?_) (fun c hc lc => ?_) (fun c hc lc => ?_) (fun c hc lc => ?_) (fun c hc c' hc' lc lc' z ee => ?_) (fun b o nb ee => ?_) (ao _ (by intro z; cases z) (by intro z; cases z) (by intro z; cases z))
    · have split : ∀ t, t ∈ S.sets ++ [S.next] → t ∈ S.sets ∨ t = S.next := fun t h => by
        rcases List.mem_append.mp h with y | y
        · exact .inl y
        · exact .inr (List.mem_singleton.mp y)
      cases c with
      | ws t =>
        rcases split t lc with y | rfl
        · exact .inr y
        · exact .inl (by simp)
      | ent t =>
        rcases split t lc with y | rfl
        · exact .inr y
        · exact .inl (by simp)
      | que t =>
        rcases split t lc with y | rfl
        · exact .inr y
        · exact .inl (by simp)
      | reg t l =>
        obtain ⟨h1, h2⟩ := lc
        have h2 : l ∈ (if t = S.next then [] else S.ents t) := h2
        by_cases nt : t = S.next
        · rw [if_pos nt] at h2
          cases h2
        · rw [if_neg nt] at h2
          rcases split t h1 with y | y
          · exact .inr ⟨y, h2⟩
          · exact absurd y nt
      | _ => exact .inr lc
    · simp only [List.mem_cons, List.not_mem_nil, or_false] at hc
      rcases hc with rfl | rfl | rfl | rfl
      · rw [ao _ (by intro z; cases z) (by intro z; cases z) (by intro z; cases z), upd_same, ent_put, if_neg hnx, wf]
        rfl
      · rw [aw, upd_ne nxD, h2x]
        show _ = some (wsO C.W (setA dx (.ws S.next) dx2 (.ws S.next)) _ _)
        rw [setA_same, ae, aq]
      · rw [ae, upd_ne neD, h2e]
        show _ = some (HO.dK (entKV (if S.next = S.next then [] else S.ents S.next) _))
        rw [if_pos rfl]
        rfl
      · rw [aq, upd_ne nqD, h2q]
        show _ = some (HO.lst ((if S.next = S.next then [] else S.que S.next).map V.int))
        rw [if_pos rfl]
        rfl
    · have n1 : c ≠ .setD := fun z => hc (by rw [z]; simp)
      have n2 : c ≠ .ws S.next := fun z => hc (by rw [z]; simp)
      have n3 : c ≠ .ent S.next := fun z => hc (by rw [z]; simp)
      have n4 : c ≠ .que S.next := fun z => hc (by rw [z]; simp)
      refine ⟨ao c n2 n3 n4, ?_⟩
      cases c with
      | setD => exact absurd rfl n1
      | ws t =>
        have nt : t ≠ S.next := fun z => n2 (by rw [z])
        show wsO C.W (setA dx (.ws S.next) dx2 (.ws t)) _ _ = _
        rw [setA_ne n2, ao (.ent t) (by intro z; cases z) (fun z => nt (by cases z; rfl)) (by intro z; cases z), ao (.que t) (by intro z; cases z) (by intro z; cases z) (fun z => nt (by cases z; rfl))]
        rfl
      | ent t =>
        have nt : t ≠ S.next := fun z => n3 (by rw [z])
        show HO.dK (entKV (if t = S.next then [] else S.ents t) _) = _
        rw [if_neg nt]
        rfl
      | que t =>
        have nt : t ≠ S.next := fun z => n4 (by rw [z])
        show HO.lst ((if t = S.next then [] else S.que t).map V.int) = _
        rw [if_neg nt]
        rfl
      | _ => rfl
    · simp only [List.mem_cons, List.not_mem_nil, or_false] at hc
      rcases hc with rfl | rfl | rfl | rfl
      · exact .inl ⟨ao _ (by intro z; cases z) (by intro z; cases z) (by intro z; cases z), trivial⟩
      · exact .inr (by rw [aw]; exact hx)
      · exact .inr (by rw [ae]; exact he)
      · exact .inr (by rw [aq]; exact hq)
    · simp only [List.mem_cons, List.not_mem_nil, or_false] at hc hc'
      have oD : setA (setA (setA ad (.ws S.next) x) (.ent S.next) e) (.que S.next) q .setD = ad .setD := ao _ (by intro z; cases z) (by intro z; cases z) (by intro z; cases z)
      rcases hc with rfl | rfl | rfl | rfl
      · rw [oD, hD1] at z
        cases z
      · rcases hc' with rfl | rfl | rfl | rfl
        · rw [aw, oD] at ee
          exact absurd ee nxD
        · rfl
        · rw [aw, ae] at ee
          exact absurd ee.symm nex
        · rw [aw, aq] at ee
          exact absurd ee.symm nqx
      · rcases hc' with rfl | rfl | rfl | rfl
        · rw [ae, oD] at ee
          exact absurd ee neD
        · rw [aw, ae] at ee
          exact absurd ee nex
        · rfl
        · rw [ae, aq] at ee
          exact absurd ee neq
      · rcases hc' with rfl | rfl | rfl | rfl
        · rw [aq, oD] at ee
          exact absurd ee nqD
        · rw [aw, aq] at ee
          exact absurd ee nqx
        · rw [ae, aq] at ee
          exact absurd ee.symm neq
        · rfl
    · rw [upd_ne (nb .setD (by simp) trivial)]
      exact s2 _ _ ee
end

theorem inV_opt (t : Int) : ∀ l : List (Option Int), inV (.int t) (l.map optV) = decide (some t ∈ l)
  | [] => rfl
  | x :: l => by
    have ih := inV_opt t l
    unfold inV at ih ⊢
    rw [List.map_cons, List.any_cons, ih]
    have e : eqV (optV x) (V.int t) = decide (x = some t) := by
      cases x with
      | none => rfl
      | some y =>
        show decide (y = t) = _
        by_cases h : y = t
        · rw [decide_eq_true h, decide_eq_true (by rw [h])]
        · rw [decide_eq_false h, decide_eq_false (fun z => h (by cases z; rfl))]
    rw [e]
    by_cases h : x = some t
    · rw [decide_eq_true h, Bool.true_or]
      exact (decide_eq_true (by rw [h]; exact List.mem_cons_self)).symm
    · rw [decide_eq_false h, Bool.false_or]
      by_cases h2 : some t ∈ l
      · rw [decide_eq_true h2]
        exact (decide_eq_true (List.mem_cons_of_mem _ h2)).symm
      · rw [decide_eq_false h2]
        exact (decide_eq_false fun z => (List.mem_cons.mp z).elim (fun e => h e.symm) h2).symm
theorem flat_opts (l : List (Option Int)) : (l.map optV).all flatV = true := by
  rw [List.all_map, List.all_eq_true]
  intro x _
  cases x <;> rfl

def cleared (S : Sys) (p n : Int) : Sys := { S with tab := fun q => if q = p then (S.tab p).set n.toNat none else S.tab q }
/-- a number is free; what it meant may end -/
def closed (S : Sys) (p n t : Int) : Sys := if ∃ q ∈ S.procs, some t ∈ (cleared S p n).tab q then cleared S p n else ended (cleared S p n) t
section
variable {P : Program} {w : World} {K : PySem.W.Frag} {mg : Str → Option Value} {base : Heap} {C : Cs}
/-! free -/
def spFree (C : Cs) : Sp := fun vs H Q _ => ∃ p n t : Int, OnSys C vs H [.int p, .int n] fun S ad dx => Means S p n t ∧ S.procs.length ≤ 1000 ∧ (t ∉ S.sets → t ∈ S.srcs) ∧ Tidy S ∧ ∀ H' ad', At C H' (closed S p n t) ad' dx → Step H S ad H' (closed S p n t) ad' → (∀ q, ad' (.tab q) = ad (.tab q)) → Q .non H'
abbrev nFree : List Str := ["self", "process", "number", "thing", "table"]
theorem scFree : FnScope nFree ["self", "process", "number"] (defScope sFree) := ⟨rfl, rfl, rfl, by decide +kernel, rfl, by decide +kernel, by decide +kernel⟩
theorem okFree {f fE : Addr} {fd fdE : FuncData} (F : Fun K "free" "System.free" sFree f fd) (any : mg "any" = none) (T : ClsF K C.S sysF) (GE : MO P w K mg base 3 C.S "end_thing" ["self", "thing"] (spEndThing C) fE fdE) :
    FnOk P w K mg base CX0 4 f fd ["self", "process", "number"] (spFree C) := by
  refine F.ok scFree (fun vs H Q E h => ?_) (fun cdv A outer s H vs Q E hr h => ?_)
  · obtain ⟨_, _, _, _, _, _, rfl, _⟩ := h
    rfl
  · obtain ⟨p, n, t, S, ad, dx, rfl, A0, M, hz, hst, O, k⟩ := h
    have hu := hu_of hr
    refine ⟨_, pss_cons (ps_set (i := 3) scFree.nd rfl (Or.inr rfl) (pe_ix ix_list (pe_dget hu (pe_fld (pv 0) rfl) (pv 1) (fun _ _ => rfl)) (pv 2) (fun _ _ => rfl)))
      (pss_cons (ps_asg pe_non (pg_sub (pe_dget hu (pe_fld (pv 0) rfl) (pv 1) (fun _ _ => rfl)) (pv 2) set_list))
      (pss_one (ps_if (pt_not (pt_val (pe_callB (cr_any rfl) (by rfl) any (by decide +kernel) (pa_cons (pe_lock (pe_lc (own := [("table", 4)]) (g := gName 4) (tt := tYes) (te := tOp (rIn K false) (tVar 3) (tVar 4)) rfl scFree.nd (pi_values (pe_fld (pv 0) rfl)) (blkOk_by (N := nFree) (sc := defScope sFree) (by decide +kernel)) (fun _ _ _ _ _ => pg_name (i := 4) scFree.nd rfl (Or.inl rfl)) (fun _ _ _ _ _ => pts_nil) (fun _ _ _ _ _ => pe_cmpR op_in_seq (pv 3) (pv 4) (by rfl)))) pa_nil))))
        (pss_one (ps_expr (pe_meth (pv 0) T.cl GE.m GE.g hr GE.b .nil pass0 (pa_cons (pv 3) pa_nil)))) pss_nil))), ?_⟩
    have hb := A0.at_ .box trivial
    have ht := A0.at_ (.tab p) M.pr
    have hT : H (ad .tabD) = some (.dK (entKV S.procs fun p => ad (.tab p))) := A0.at_ .tabD trivial
    obtain ⟨m, rfl⟩ := Int.eq_ofNat_of_zero_le M.lo
    have hm : (S.tab p)[m]? = some (some t) := M.at_
    have hml : m < (S.tab p).length := (List.getElem?_eq_some_iff.mp hm).1
    have hat : atI ((S.tab p).map optV) (m : Int) = some (V.int t) := atI_nat (by rw [List.getElem?_map, hm]; rfl)
    have hv : valV (entKV S.procs fun p => ad (.tab p)) (Sum.inl p) = some (.ref (ad (.tab p))) := by rw [ent_val, if_pos M.pr]
    refine ⟨_, rfl, ad .box, C.S, dx .box, _, _, rfl, hb, T.cl, T.no _ (by decide), rfl, ?_⟩
    refine ⟨_, rfl, ad .tabD, _, rfl, hv ▸ DGet.k (k := Sum.inl p) hT, ?_⟩
    refine ⟨_, rfl, ad (.tab p), _, _, _, rfl, rfl, SqL.of ht, hat, ?_⟩
    walk_at "wn"
    refine ⟨_, rfl, ad .box, C.S, dx .box, _, _, rfl, hb, T.cl, T.no _ (by decide), rfl, ?_⟩
    refine ⟨_, rfl, ad .tabD, _, rfl, hv ▸ DGet.k (k := Sum.inl p) hT, ?_⟩
    refine ⟨_, rfl, ad (.tab p), _, _, m, rfl, rfl, ht, by rw [List.length_map]; exact ixN_nat hml, ?_⟩
    have ntT : ad (.tab p) ≠ ad .tabD := A0.ne (c := .tab p) (c' := .tabD) M.pr trivial (by intro z; cases z)
    have nbT : ad .box ≠ ad .tabD := A0.ne (c := .box) (c' := .tabD) trivial trivial (by intro z; cases z)
    obtain ⟨A1, st1⟩ : At C (upd H (ad (.tab p)) (.lst (((S.tab p).map optV).set m V.non))) (cleared S p m) ad dx ∧ Step H S ad (upd H (ad (.tab p)) (.lst (((S.tab p).map optV).set m V.non))) (cleared S p m) ad := by
      refine At.re2 [.tab p] A0 (fun c l => by cases c <;> exact l) (fun c hc => ?_) (fun c hc => ?_) (fun c hc l => ?_) (fun b o n e => ?_)
      · rw [List.mem_singleton.mp hc]
        exact M.pr
      · rw [List.mem_singleton.mp hc, upd_same]
        show _ = some (HO.lst ((if p = p then (S.tab p).set (m : Int).toNat none else S.tab p).map optV))
        rw [if_pos rfl, List.map_set, Int.toNat_natCast]
        rfl
      · cases c with
        | tab q =>
          have nq : q ≠ p := fun z => hc (by rw [z]; simp)
          show HO.lst ((if q = p then (S.tab p).set (m : Int).toNat none else S.tab q).map optV) = _
          rw [if_neg nq]
          rfl
        | _ => rfl
      · rw [upd_ne (n (.tab p) (by simp))]
        exact e
    generalize upd H (ad (.tab p)) (.lst (((S.tab p).map optV).set m V.non)) = H1 at A1 st1
    have hb1 := A1.at_ .box trivial
    have hT1 : H1 (ad .tabD) = some (.dK (entKV S.procs fun p => ad (.tab p))) := A1.at_ .tabD trivial
    show tIfS (tNot (tB (tCB _ (tCons (tLockE _) tNil)))) _ _ _ _ H1
    refine g_ifs (g_not (g_tB (g_cb (g_cons ?_))))
    refine ⟨ad .tabD, _, hT1, trivial, fun od => ?_⟩
    refine ⟨_, rfl, ad .box, C.S, dx .box, _, _, rfl, by rw [upd_ne nbT]; exact hb1, T.cl, T.no _ (by decide), rfl, ?_⟩
    refine ⟨ad .tabD, od, _, rfl, upd_same, fun D hD => ?_⟩
    have nDT : D ≠ ad .tabD := fun z => by rw [z, upd_same] at hD; cases hD
    have hD0 : H1 D = none := by rw [upd_ne nDT] at hD; exact hD
    refine lc_it walk_values (fun i H' => Same (upd H1 (ad .tabD) (.frz od (.dK (entKV S.procs fun p => ad (.tab p))))) H' ∧ H' D = some (.lst (((S.procs.take i).map fun q => decide (some t ∈ (cleared S p m).tab q)).map V.bl))) ⟨Same.new' hD, upd_same⟩ (fun i H' _ h => h.1 _ _ upd_same) ?_ (fun H' h => ?_)
    · rintro i x H2 H3 hi ⟨sm, hd⟩ ⟨rfl, kx, ex⟩
      have hi' : i < S.procs.length := by unfold entKV at hi; rwa [List.length_map] at hi
      have e2 : S.procs[i]? = some S.procs[i] := List.getElem?_eq_getElem hi'
      have hs : S.procs[i] ∈ S.procs := List.getElem_mem hi'
      have et : S.procs.take (i + 1) = S.procs.take i ++ [S.procs[i]] := by rw [List.take_add_one, e2]; rfl
      unfold entKV at ex
      rw [List.getElem?_map, e2] at ex
      cases ex
      rw [et]
      generalize S.procs[i] = q at e2 hs
      have f1 : H3 (ad (.tab q)) = some (.lst (((cleared S p m).tab q).map optV)) := sm _ _ ((upd_ne (A1.ne (c := .tab q) (c' := .tabD) hs trivial (by intro z; cases z))).trans (A1.at_ (.tab q) hs))
      refine ⟨rfl, ?_⟩
      show tYes _ _ _
      refine g_yes ?_
      show if true = true then _ else _
      refine iteT ?_
      refine ⟨_, rfl, _, rfl, ad (.tab q), _, rfl, .inl (SqL.of f1), rfl, flat_opts _, ?_⟩
      refine ⟨_, hd, by rw [List.length_map, List.length_map, List.length_take, sizeLine_eq]; omega, fun b o z => ?_, ?_⟩
      · rw [upd_ne (fun y => by rw [y, hD] at z; cases z)]
        exact sm b o z
      · rw [upd_same, List.map_append, List.map_append]
        show some (HO.lst (_ ++ [V.bl (inV (.int t) (((cleared S p m).tab q).map optV))])) = _
        rw [inV_opt]
        rfl
    · obtain ⟨sm, hd⟩ := h
      have ee : S.procs.take (entKV S.procs fun p => ad (.tab p)).length = S.procs := by unfold entKV; rw [List.length_map, List.take_length]
      rw [ee] at hd
      refine ⟨sm _ _ upd_same, ?_⟩
      have sm2 : Same H1 (upd H' (ad .tabD) (.dK (entKV S.procs fun p => ad (.tab p)))) := fun b o z => by
        by_cases hb2 : b = ad .tabD
        · rw [hb2, upd_same, ← hT1, ← hb2, z]
        · rw [upd_ne hb2]
          exact sm _ _ (by rw [upd_ne hb2]; exact z)
      show tNil _ _ _
      refine g_nil ?_
      refine ⟨D, _, rfl, SqL.of (by rw [upd_ne nDT]; exact hd), ?_⟩
      refine g_bl ?_
      have hany : ((S.procs.map fun q => decide (some t ∈ (cleared S p m).tab q)).any id) = decide (∃ q ∈ S.procs, some t ∈ (cleared S p m).tab q) := by
        rw [List.any_map]
        by_cases he : ∃ q ∈ S.procs, some t ∈ (cleared S p m).tab q
        · rw [decide_eq_true he]
          obtain ⟨q, h1, h2⟩ := he
          exact List.any_eq_true.mpr ⟨q, h1, decide_eq_true h2⟩
        · rw [decide_eq_false he]
          refine List.any_eq_false.mpr fun q hq z => he ⟨q, hq, of_decide_eq_true z⟩
      rw [hany]
      have A2 := A1.same sm2
      have st2 := st1.trans (Step.same sm2)
      unfold closed at k
      by_cases he : ∃ q ∈ S.procs, some t ∈ (cleared S p m).tab q
      · rw [if_pos he] at k
        rw [decide_eq_true he]
        refine iteF ?_
        exact k _ ad A2 st2 fun _ => rfl
      · rw [if_neg he] at k
        rw [decide_eq_false he]
        refine iteT ?_
        walk_at "wn"
        refine ⟨_, rfl, ad .box, dx .box, _, rfl, A2.at_ .box trivial, rfl, ?_⟩
        walk_at "wn"
        exact ⟨t, cleared S p m, ad, dx, rfl, A2, hst, ⟨⟨O.sm.que, O.sm.ents, O.sm.srcs, O.sm.sets, O.sm.nd⟩, O.nd⟩, fun H3 ad3 A3 st3 tb3 _ => k H3 ad3 A3 (st2.trans st3) tb3⟩
end
def copied (S : Sys) (p : Int) (m : Nat) (t : Int) : Sys := { S with tab := fun q => if q = p then (S.tab p).set m (some t) else S.tab q }
theorem At.cop {C : Cs} {H : Hp} {S : Sys} {ad dx : Cell → Addr} {p t : Int} {m : Nat} (A : At C H S ad dx) (hp : p ∈ S.procs) : At C (upd H (ad (.tab p)) (.lst (((S.tab p).map optV).set m (.int t)))) (copied S p m t) ad dx ∧ Step H S ad (upd H (ad (.tab p)) (.lst (((S.tab p).map optV).set m (.int t)))) (copied S p m t) ad := by
  refine At.re2 [.tab p] A (fun c l => by cases c <;> exact l) (fun c hc => ?_) (fun c hc => ?_) (fun c hc l => ?_) (fun b o n e => ?_)
  · rw [List.mem_singleton.mp hc]
    exact hp
  · rw [List.mem_singleton.mp hc, upd_same]
    show _ = some (HO.lst ((if p = p then (S.tab p).set m (some t) else S.tab p).map optV))
    rw [if_pos rfl, List.map_set]
    rfl
  · cases c with
    | tab q =>
      have nq : q ≠ p := fun z => hc (by rw [z]; simp)
      show HO.lst ((if q = p then (S.tab p).set m (some t) else S.tab q).map optV) = _
      rw [if_neg nq]
      rfl
    | _ => rfl
  · rw [upd_ne (n (.tab p) (by simp))]
    exact e
/-- a copy onto a number; what the number meant may end -/
def pasted (S : Sys) (p : Int) (m : Nat) (t : Int) : Sys := match (S.tab p)[m]? with
  | some (some u) => if u = t then S else copied (closed S p (m : Int) u) p m t
  | _ => copied S p m t
theorem closed_tab {S : Sys} {p n t : Int} : (closed S p n t).tab = (cleared S p n).tab := by
  unfold closed
  split
  · rfl
  · unfold ended
    split <;> rfl
theorem closed_procs {S : Sys} {p n t : Int} : (closed S p n t).procs = S.procs := by
  unfold closed
  split
  · rfl
  · unfold ended
    split <;> rfl
structure FreeP (S : Sys) (m : Nat) : Prop where
  no : (m : Int) ∉ S.procs
  lo : ∀ i : Nat, i < m → (i : Int) ∈ S.procs
  hi : (m : Int) < S.P
structure NoFree (S : Sys) : Prop where
  all : ∀ i : Nat, (i : Int) < S.P → (i : Int) ∈ S.procs
def forked (S : Sys) (p : Int) (m : Nat) : Sys := { S with procs := S.procs ++ [(m : Int)], tab := fun q => if q = (m : Int) then S.tab p else S.tab q }
theorem tab_fun (ad : Cell → Addr) (t : Int) (T : Addr) : (fun j => if j = t then T else ad (.tab j)) = fun j => setA ad (.tab t) T (.tab j) := by
  funext j
  by_cases h : j = t
  · rw [if_pos h, h, setA_same]
  · rw [if_neg h, setA_ne fun z => h (by cases z; rfl)]

/-! what a system is stays behind each call -/
def finished (S : Sys) (t : Int) : Sys := notified (withUnit S t (S.unit t).1 true) t
theorem nodup_snoc {α : Type} {l : List α} {x : α} (h : l.Nodup) (n : x ∉ l) : (l ++ [x]).Nodup := List.nodup_append.mpr ⟨h, by simp, fun a ha b hb e => n (by rw [List.mem_singleton] at hb; rw [← hb, ← e]; exact ha)⟩
theorem mem_setL {α : Type} {l : List α} {n : Nat} {x y : α} (h : n < l.length) : x ∈ l.set n y ↔ x = y ∨ ∃ i, i ≠ n ∧ l[i]? = some x := by
  constructor
  · intro hx
    obtain ⟨i, hi⟩ := List.getElem?_of_mem hx
    rw [List.getElem?_set] at hi
    by_cases e : n = i
    · rw [if_pos e, if_pos (e ▸ h)] at hi
      exact .inl (Option.some.inj hi).symm
    · rw [if_neg e] at hi
      exact .inr ⟨i, fun z => e z.symm, hi⟩
  · rintro (e | ⟨i, ni, hi⟩)
    · rw [e]
      exact List.mem_set h y
    · refine List.mem_of_getElem? (i := i) ?_
      rw [List.getElem?_set, if_neg fun z => ni z.symm]
      exact hi
theorem mem_get {α : Type} {l : List α} {x : α} : x ∈ l ↔ ∃ i : Nat, l[i]? = some x := ⟨List.getElem?_of_mem, fun ⟨i, h⟩ => List.mem_of_getElem? h⟩
abbrev heldP (S : Sys) (t : Int) : Prop := ∃ p ∈ S.procs, some t ∈ S.tab p
theorem WF.tabs {S S' : Sys} (W : WF S) (eP : S'.P = S.P) (eN : S'.N = S.N) (e1 : S'.srcs = S.srcs) (e2 : S'.sets = S.sets) (e3 : S'.unit = S.unit) (e4 : S'.ents = S.ents) (e5 : S'.reg = S.reg) (e6 : S'.que = S.que)
    (pn : S'.procs.Nodup) (pr : ∀ p ∈ S'.procs, 0 ≤ p ∧ p < S.P) (tl : ∀ p ∈ S'.procs, (S'.tab p).length = S.N.toNat) (nx : ∀ p ∈ S'.procs, ∀ t, some t ∈ S'.tab p → t < S'.next) (kd : ∀ t, heldP S' t ↔ (t ∈ S.srcs ∨ t ∈ S.sets)) : WF S' := by
  obtain ⟨P, N, next, procs, tab, srcs, unit, sets, ents, reg, que⟩ := S'
  dsimp only at eP eN e1 e2 e3 e4 e5 e6
  subst eP eN e1 e2 e3 e4 e5 e6
  exact ⟨W.P2, W.P6, W.N3, W.N8, pn, pr, tl, nx, kd, W.dj, W.sn, W.en, W.un, W.ln, W.lb, W.rs, W.rn, W.rw_, W.ky, W.qn, W.qe⟩
section
variable {S : Sys}
/-- a table with one number changed -/
theorem tab_mem {p q : Int} {n : Nat} {y x : Option Int} (h : n < (S.tab p).length) : x ∈ (if q = p then (S.tab p).set n y else S.tab q) ↔ (q = p ∧ x = y) ∨ ∃ i, ¬ (q = p ∧ i = n) ∧ (S.tab q)[i]? = some x := by
  by_cases z : q = p
  · rw [if_pos z, mem_setL h]
    constructor
    · rintro (e | ⟨i, a, b⟩)
      · exact .inl ⟨z, e⟩
      · exact .inr ⟨i, fun y => a y.2, by rw [z]; exact b⟩
    · rintro (e | ⟨i, a, b⟩)
      · exact .inl e.2
      · exact .inr ⟨i, fun y => a ⟨z, y⟩, by rw [← z]; exact b⟩
  · rw [if_neg z, mem_get]
    constructor
    · rintro ⟨i, hi⟩
      exact .inr ⟨i, fun y => z y.1, hi⟩
    · rintro (e | ⟨i, a, b⟩)
      · exact absurd e.1 z
      · exact ⟨i, b⟩
theorem tab_len {p q : Int} {n : Nat} {y : Option Int} : (if q = p then (S.tab p).set n y else S.tab q).length = (S.tab q).length := by
  split
  · rename_i z
    rw [List.length_set, z]
  · rfl
theorem WF.newHeld (W : WF S) {p : Int} {n : Nat} (hp : p ∈ S.procs) (hf : firstFree (S.tab p) n) (t : Int) : heldP (newThing S p n) t ↔ (heldP S t ∨ t = S.next) := by
  have hn := (List.getElem?_eq_some_iff.mp hf.1).1
  constructor
  · rintro ⟨q, hq, h⟩
    rcases (tab_mem (y := some S.next) hn).mp h with ⟨_, e⟩ | ⟨i, _, e⟩
    · exact .inr (Option.some.inj e)
    · exact .inl ⟨q, hq, List.mem_of_getElem? e⟩
  · rintro (⟨q, hq, h⟩ | rfl)
    · obtain ⟨i, hi⟩ := mem_get.mp h
      refine ⟨q, hq, (tab_mem (y := some S.next) hn).mpr (.inr ⟨i, fun z => ?_, hi⟩)⟩
      rw [z.1, z.2, hf.1] at hi
      cases hi
    · exact ⟨p, hp, (tab_mem (y := some S.next) hn).mpr (.inl ⟨rfl, rfl⟩)⟩
theorem WF.newNx (W : WF S) {p : Int} {n : Nat} (hf : firstFree (S.tab p) n) {q : Int} (hq : q ∈ S.procs) {t : Int} (h : some t ∈ (Wn.newThing S p n).tab q) : t < S.next + 1 := by
  have hn := (List.getElem?_eq_some_iff.mp hf.1).1
  rcases (tab_mem (y := some S.next) hn).mp h with ⟨_, e⟩ | ⟨i, _, e⟩
  · have := Option.some.inj e
    omega
  · have := W.nx q hq t (List.mem_of_getElem? e)
    omega
theorem WF.newSource (W : WF S) {p : Int} {n : Nat} (hp : p ∈ S.procs) (hf : firstFree (S.tab p) n) : WF (newSource S p n) := by
  obtain ⟨o1, o2⟩ := W.next_out
  have inS : ∀ t, t ∈ S.srcs ++ [S.next] ↔ t ∈ S.srcs ∨ t = S.next := fun t => by rw [List.mem_append, List.mem_singleton]
  refine ⟨W.P2, W.P6, W.N3, W.N8, W.pn, W.pr, fun q hq => (tab_len (y := some S.next)).trans (W.tl q hq), fun q hq t h => W.newNx hf hq h, fun t => ?_, fun t ht => ?_, nodup_snoc W.sn o1, W.en, fun t ht => ?_, W.ln, W.lb, fun s hs l hl => (inS _).mpr (.inl (W.rs s hs l hl)), W.rn, W.rw_, W.ky, W.qn, W.qe⟩
  · refine (W.newHeld hp hf t).trans ?_
    show _ ↔ t ∈ S.srcs ++ [S.next] ∨ t ∈ S.sets
    rw [inS, show heldP S t ↔ _ from W.kd t]
    exact ⟨fun z => z.elim (fun y => y.elim (fun x => .inl (.inl x)) .inr) fun y => .inl (.inr y), fun z => z.elim (fun y => y.elim (fun x => .inl (.inl x)) .inr) fun y => .inl (.inr y)⟩
  · rcases (inS t).mp ht with z | z
    · exact W.dj t z
    · rw [z]
      exact o2
  · show 0 ≤ (if t = S.next then ((0 : Int), false) else S.unit t).1
    split
    · exact Int.le_refl _
    · exact W.un t (((inS t).mp ht).resolve_right (by assumption))
theorem WF.newSet (W : WF S) {p : Int} {n : Nat} (hp : p ∈ S.procs) (hf : firstFree (S.tab p) n) : WF (newSet S p n) := by
  obtain ⟨o1, o2⟩ := W.next_out
  have inS : ∀ t, t ∈ S.sets ++ [S.next] ↔ t ∈ S.sets ∨ t = S.next := fun t => by rw [List.mem_append, List.mem_singleton]
  have ent : ∀ s, s ∈ S.sets ++ [S.next] → ((Wn.newSet S p n).ents s = [] ∧ (Wn.newSet S p n).que s = []) ∨ (s ∈ S.sets ∧ (Wn.newSet S p n).ents s = S.ents s ∧ (Wn.newSet S p n).que s = S.que s) := fun s hs => by
    by_cases z : s = S.next
    · exact .inl ⟨if_pos z, if_pos z⟩
    · exact .inr ⟨((inS s).mp hs).resolve_right z, if_neg z, if_neg z⟩
  have old : ∀ s, s ∈ S.sets ++ [S.next] → ∀ l, l ∈ (Wn.newSet S p n).ents s → s ∈ S.sets ∧ l ∈ S.ents s := fun s hs l hl => by
    rcases ent s hs with ⟨e, _⟩ | ⟨a, e, _⟩
    · rw [e] at hl
      cases hl
    · rw [e] at hl
      exact ⟨a, hl⟩
  refine ⟨W.P2, W.P6, W.N3, W.N8, W.pn, W.pr, fun q hq => (tab_len (y := some S.next)).trans (W.tl q hq), fun q hq t h => W.newNx hf hq h, fun t => ?_, fun t ht z => ?_, W.sn, nodup_snoc W.en o2, W.un, fun s hs => ?_, fun s hs l hl => ?_, fun s hs l hl => ?_, fun s hs l hl => ?_, fun s hs l hl => ?_, fun s hs l hl j hj => ?_, fun s hs => ?_, fun s hs l hl => ?_⟩
  · refine (W.newHeld hp hf t).trans ?_
    show _ ↔ t ∈ S.srcs ∨ t ∈ S.sets ++ [S.next]
    rw [inS, show heldP S t ↔ _ from W.kd t, or_assoc]
  · rcases (inS t).mp z with y | y
    · exact W.dj t ht y
    · exact o1 (y ▸ ht)
  · rcases ent s hs with ⟨e, _⟩ | ⟨a, e, _⟩
    · rw [e]
      exact List.nodup_nil
    · rw [e]
      exact W.ln s a
  · obtain ⟨a, b⟩ := old s hs l hl
    exact W.lb s a l b
  · obtain ⟨a, b⟩ := old s hs l hl
    exact W.rs s a l b
  · obtain ⟨a, b⟩ := old s hs l hl
    exact W.rn s a l b
  · obtain ⟨a, b⟩ := old s hs l hl
    exact W.rw_ s a l b
  · obtain ⟨a, b⟩ := old s hs l hl
    obtain ⟨_, c⟩ := old s hs j hj
    exact W.ky s a l b j c
  · rcases ent s hs with ⟨_, e⟩ | ⟨a, _, e⟩
    · rw [e]
      exact List.nodup_nil
    · rw [e]
      exact W.qn s a
  · rcases ent s hs with ⟨_, e⟩ | ⟨a, e1, e⟩
    · rw [e] at hl
      cases hl
    · rw [e] at hl
      rw [e1]
      exact W.qe s a l hl
/-! closings -/
theorem cleared_tab (q p : Int) (n : Nat) : (cleared S p (n : Int)).tab q = if q = p then (S.tab p).set n none else S.tab q := by
  show (if q = p then (S.tab p).set (n : Int).toNat none else S.tab q) = _
  rw [Int.toNat_natCast]
theorem held_clear {p t : Int} {n : Nat} (h : (S.tab p)[n]? = some (some t)) {u : Int} : heldP (cleared S p (n : Int)) u → heldP S u := fun ⟨q, hq, hu⟩ => by
  rw [cleared_tab] at hu
  rcases (tab_mem (List.getElem?_eq_some_iff.mp h).1).mp hu with ⟨_, e⟩ | ⟨i, _, e⟩
  · cases e
  · exact ⟨q, hq, List.mem_of_getElem? e⟩
theorem held_clear2 {p t : Int} {n : Nat} (h : (S.tab p)[n]? = some (some t)) {u : Int} (nu : u ≠ t) : heldP S u → heldP (cleared S p (n : Int)) u := fun ⟨q, hq, hu⟩ => by
  obtain ⟨i, hi⟩ := mem_get.mp hu
  refine ⟨q, hq, ?_⟩
  rw [cleared_tab]
  refine (tab_mem (List.getElem?_eq_some_iff.mp h).1).mpr (.inr ⟨i, fun z => nu ?_, hi⟩)
  rw [z.1, z.2, h] at hi
  exact (Option.some.inj (Option.some.inj hi)).symm
theorem WF.close (W : WF S) {p n t : Int} (M : Means S p n t) : WF (closed S p n t) := by
  obtain ⟨m, rfl⟩ := Int.eq_ofNat_of_zero_le M.lo
  have hm : (S.tab p)[m]? = some (some t) := M.at_
  have ht : heldP S t := ⟨p, M.pr, List.mem_of_getElem? hm⟩
  have tl1 : ∀ q ∈ S.procs, ((cleared S p (m : Int)).tab q).length = S.N.toNat := fun q hq => by
    rw [cleared_tab, tab_len]
    exact W.tl q hq
  have nx1 : ∀ q ∈ S.procs, ∀ u, some u ∈ (cleared S p (m : Int)).tab q → u < S.next := fun q hq u hu => by
    rw [cleared_tab] at hu
    rcases (tab_mem (List.getElem?_eq_some_iff.mp hm).1).mp hu with ⟨_, e⟩ | ⟨i, _, e⟩
    · cases e
    · exact W.nx q hq u (List.mem_of_getElem? e)
  unfold closed
  split
  · rename_i hh
    refine W.tabs rfl rfl rfl rfl rfl rfl rfl rfl W.pn W.pr tl1 nx1 fun u => ⟨fun h => (W.kd u).mp (held_clear hm h), fun h => ?_⟩
    by_cases e : u = t
    · rw [e]
      exact hh
    · exact held_clear2 hm e ((W.kd u).mpr h)
  · rename_i hh
    have kd1 : ∀ u, heldP (cleared S p (m : Int)) u ↔ (u ≠ t ∧ (u ∈ S.srcs ∨ u ∈ S.sets)) := fun u => ⟨fun h => ⟨fun e => hh (e ▸ h), (W.kd u).mp (held_clear hm h)⟩, fun h => held_clear2 hm h.1 ((W.kd u).mpr h.2)⟩
    unfold ended
    split
    · rename_i hs
      have hs : t ∈ S.sets := hs
      have sub : ∀ s, s ∈ without t S.sets → s ∈ S.sets := fun s h => (mem_without.mp h).1
      refine ⟨W.P2, W.P6, W.N3, W.N8, W.pn, W.pr, tl1, nx1, fun u => (kd1 u).trans ?_, fun u hu z => W.dj u hu (sub u z), W.sn, W.en.filter _, W.un, fun s h => W.ln s (sub s h), fun s h => W.lb s (sub s h), fun s h => W.rs s (sub s h), fun s h => W.rn s (sub s h), fun s h => W.rw_ s (sub s h), fun s h => W.ky s (sub s h), fun s h => W.qn s (sub s h), fun s h => W.qe s (sub s h)⟩
      show _ ↔ u ∈ S.srcs ∨ u ∈ without t S.sets
      rw [mem_without]
      constructor
      · rintro ⟨a, b | b⟩
        · exact .inl b
        · exact .inr ⟨b, a⟩
      · rintro (b | ⟨b, a⟩)
        · exact ⟨fun e => W.dj u b (e ▸ hs), .inl b⟩
        · exact ⟨a, .inr b⟩
    · rename_i hs
      have hs : t ∉ S.sets := hs
      show WF (sdrops (noSrc (cleared S p (m : Int)) t) t S.sets)
      have hsr : t ∈ S.srcs := ((W.kd t).mp ht).resolve_right hs
      have sub : ∀ s, s ∈ without t S.srcs → s ∈ S.srcs := fun s h => (mem_without.mp h).1
      have ent : ∀ s ∈ S.sets, (sdrops (noSrc (cleared S p (m : Int)) t) t S.sets).ents s = dropAll (S.ents s) (gone S t s) := fun s h => if_pos h
      have que : ∀ s ∈ S.sets, (sdrops (noSrc (cleared S p (m : Int)) t) t S.sets).que s = dropAll (S.que s) (gone S t s) := fun s h => if_pos h
      have old : ∀ s ∈ S.sets, ∀ l, l ∈ (sdrops (noSrc (cleared S p (m : Int)) t) t S.sets).ents s → l ∈ S.ents s ∧ (S.reg s l).src ≠ t := fun s h l hl => by
        rw [ent s h] at hl
        obtain ⟨a, b⟩ := mem_dropAll.mp hl
        exact ⟨a, fun e => b (List.mem_filter.mpr ⟨a, decide_eq_true e⟩)⟩
      have dnd : ∀ (D ls : List Int), ls.Nodup → (dropAll ls D).Nodup := fun D => by
        induction D with
        | nil => exact fun ls h => h
        | cons d D ih => exact fun ls h => ih _ (h.filter _)
      refine ⟨W.P2, W.P6, W.N3, W.N8, W.pn, W.pr, tl1, nx1, fun u => (kd1 u).trans ?_, fun u hu z => W.dj u (sub u hu) z, W.sn.filter _, W.en, fun u hu => W.un u (sub u hu), fun s h => ?_, fun s h l hl => W.lb s h l (old s h l hl).1, fun s h l hl => mem_without.mpr ⟨W.rs s h l (old s h l hl).1, (old s h l hl).2⟩, fun s h l hl => W.rn s h l (old s h l hl).1, fun s h l hl => W.rw_ s h l (old s h l hl).1, fun s h l hl j hj => W.ky s h l (old s h l hl).1 j (old s h j hj).1, fun s h => ?_, fun s h l hl => ?_⟩
      · show _ ↔ u ∈ without t S.srcs ∨ u ∈ S.sets
        rw [mem_without]
        constructor
        · rintro ⟨a, b | b⟩
          · exact .inl ⟨b, a⟩
          · exact .inr b
        · rintro (⟨b, a⟩ | b)
          · exact ⟨a, .inl b⟩
          · exact ⟨fun e => hs (e ▸ b), .inr b⟩
      · rw [ent s h]
        exact dnd _ _ (W.ln s h)
      · rw [que s h]
        exact dnd _ _ (W.qn s h)
      · rw [que s h] at hl
        rw [ent s h]
        obtain ⟨a, b⟩ := mem_dropAll.mp hl
        exact mem_dropAll.mpr ⟨W.qe s h l a, b⟩
theorem WF.copied (W : WF S) {p t : Int} {m : Nat} (hp : p ∈ S.procs) (ht : heldP S t) (h : (S.tab p)[m]? = some none) : WF (copied S p m t) := by
  have hl := (List.getElem?_eq_some_iff.mp h).1
  refine W.tabs rfl rfl rfl rfl rfl rfl rfl rfl W.pn W.pr (fun q hq => tab_len.trans (W.tl q hq)) (fun q hq u hu => ?_) fun u => Iff.trans ⟨?_, ?_⟩ (W.kd u)
  · rcases (tab_mem (y := some t) hl).mp hu with ⟨_, e⟩ | ⟨i, _, e⟩
    · obtain ⟨r, hr, e2⟩ := ht
      rw [Option.some.inj e]
      exact W.nx r hr t e2
    · exact W.nx q hq u (List.mem_of_getElem? e)
  · rintro ⟨q, hq, hu⟩
    rcases (tab_mem (y := some t) hl).mp hu with ⟨_, e⟩ | ⟨i, _, e⟩
    · rw [Option.some.inj e]
      exact ht
    · exact ⟨q, hq, List.mem_of_getElem? e⟩
  · rintro ⟨q, hq, hu⟩
    obtain ⟨i, hi⟩ := mem_get.mp hu
    refine ⟨q, hq, (tab_mem (y := some t) hl).mpr (.inr ⟨i, fun z => ?_, hi⟩)⟩
    rw [z.1, z.2, h] at hi
    cases hi
theorem closed_clear_tab {p n t q : Int} : (closed S p n t).tab q = (cleared S p n).tab q := by rw [closed_tab]
theorem held_closed {p n t u : Int} : heldP (closed S p n t) u ↔ heldP (cleared S p n) u := by
  unfold heldP
  rw [closed_procs, closed_tab]
  rfl
theorem WF.pasted (W : WF S) {p n t : Int} {m : Nat} (M : Means S p n t) (hm : m < (S.tab p).length) : WF (pasted S p m t) := by
  have ht : heldP S t := ⟨p, M.pr, List.mem_of_getElem? M.at_⟩
  unfold Wn.pasted
  split
  · rename_i u hu
    split
    · exact W
    · rename_i nu
      have tl := W.tl p M.pr
      have Mu : Means S p (m : Int) u := ⟨M.pr, by omega, by omega, by rw [Int.toNat_natCast]; exact hu⟩
      refine (W.close Mu).copied (by rw [closed_procs]; exact M.pr) (held_closed.mpr (held_clear2 hu (fun e => nu e.symm) ht)) ?_
      rw [closed_clear_tab, cleared_tab, if_pos rfl, List.getElem?_set, if_pos rfl, if_pos hm]
  · rename_i hn
    refine W.copied M.pr ht ?_
    rw [List.getElem?_eq_getElem hm]
    cases e : (S.tab p)[m] with
    | none => rfl
    | some u => exact absurd (by rw [List.getElem?_eq_getElem hm, e]) (hn u)
theorem WF.forked (W : WF S) {p : Int} {m : Nat} (hp : p ∈ S.procs) (hf : FreeP S m) : WF (forked S p m) := by
  have ti : ∀ q ∈ S.procs, (Wn.forked S p m).tab q = S.tab q := fun q hq => if_neg fun z : q = (m : Int) => hf.no (z ▸ hq)
  have tm : (Wn.forked S p m).tab (m : Int) = S.tab p := if_pos rfl
  have inP : ∀ q, q ∈ S.procs ++ [(m : Int)] ↔ q ∈ S.procs ∨ q = (m : Int) := fun q => by rw [List.mem_append, List.mem_singleton]
  refine W.tabs rfl rfl rfl rfl rfl rfl rfl rfl (nodup_snoc W.pn hf.no) (fun q hq => ?_) (fun q hq => ?_) (fun q hq u hu => ?_) fun u => Iff.trans ⟨?_, ?_⟩ (W.kd u)
  · rcases (inP q).mp hq with z | z
    · exact W.pr q z
    · rw [z]
      exact ⟨by omega, hf.hi⟩
  · rcases (inP q).mp hq with z | z
    · rw [ti q z]
      exact W.tl q z
    · rw [z, tm]
      exact W.tl p hp
  · rcases (inP q).mp hq with z | z
    · rw [ti q z] at hu
      exact W.nx q z u hu
    · rw [z, tm] at hu
      exact W.nx p hp u hu
  · rintro ⟨q, hq, hu⟩
    rcases (inP q).mp hq with z | z
    · rw [ti q z] at hu
      exact ⟨q, z, hu⟩
    · rw [z, tm] at hu
      exact ⟨p, hp, hu⟩
  · rintro ⟨q, hq, hu⟩
    exact ⟨q, (inP q).mpr (.inl hq), by rw [ti q hq]; exact hu⟩
/-- a process without open numbers is gone -/
def goneP (S : Sys) (p : Int) : Sys := { S with procs := without p S.procs }
/-! units and registrations -/
theorem nodup_qAdd {u : Int} {l : List Int} (h : l.Nodup) : (qAdd u l).Nodup := by
  unfold qAdd
  split <;> rename_i h2
  · exact h
  · exact nodup_snoc h h2
theorem WF.added (W : WF S) {s l : Int} {r : Reg} (hs : s ∈ S.sets) (l0 : 0 ≤ l) (l1 : l ≤ 999999) (hr : r.src ∈ S.srcs) (n0 : 0 ≤ r.num) (n1 : r.num < S.N) (hw : r.word ∈ wordsL) (hl : l ∉ S.ents s) (hk : (S.ents s).find? (keyOf (S.reg s) r.num r.src) = none) : WF (added S s l r) := by
  have e1 : (Wn.added S s l r).ents s = S.ents s ++ [l] := if_pos rfl
  have e2 : ∀ j, j ≠ s → (Wn.added S s l r).ents j = S.ents j := fun j h => if_neg h
  have r1 : (Wn.added S s l r).reg s l = r := if_pos ⟨rfl, rfl⟩
  have r2 : ∀ j i, ¬ (j = s ∧ i = l) → (Wn.added S s l r).reg j i = S.reg j i := fun j i h => if_neg h
  have q1 : (Wn.added S s l r).que s = if ready S r.src = true then qAdd l (S.que s) else S.que s := if_pos rfl
  have q2 : ∀ j, j ≠ s → (Wn.added S s l r).que j = S.que j := fun j h => if_neg h
  have mem : ∀ j i, i ∈ (Wn.added S s l r).ents j → (j = s ∧ i = l) ∨ (i ∈ S.ents j ∧ ¬ (j = s ∧ i = l)) := fun j i hi => by
    by_cases z : j = s
    · rw [z, e1, List.mem_append, List.mem_singleton] at hi
      rcases hi with y | y
      · exact .inr ⟨z ▸ y, fun x => hl (x.2 ▸ y)⟩
      · exact .inl ⟨z, y⟩
    · rw [e2 j z] at hi
      exact .inr ⟨hi, fun x => z x.1⟩
  have nk : ∀ i ∈ S.ents s, (S.reg s i).num = r.num → (S.reg s i).src = r.src → False := fun i hi a b => by
    have := List.find?_eq_none.mp hk i hi
    unfold keyOf at this
    rw [decide_eq_true a, decide_eq_true b] at this
    exact this rfl
  refine ⟨W.P2, W.P6, W.N3, W.N8, W.pn, W.pr, W.tl, W.nx, W.kd, W.dj, W.sn, W.en, W.un, fun j hj => ?_, fun j hj i hi => ?_, fun j hj i hi => ?_, fun j hj i hi => ?_, fun j hj i hi => ?_, fun j hj i hi k hk2 a b => ?_, fun j hj => ?_, fun j hj i hi => ?_⟩
  · by_cases z : j = s
    · rw [z, e1]
      exact nodup_snoc (W.ln s hs) hl
    · rw [e2 j z]
      exact W.ln j hj
  · rcases mem j i hi with ⟨_, z⟩ | ⟨z, _⟩
    · rw [z]
      exact ⟨l0, l1⟩
    · exact W.lb j hj i z
  · rcases mem j i hi with ⟨z, y⟩ | ⟨z, y⟩
    · rw [z, y, r1]
      exact hr
    · rw [r2 j i y]
      exact W.rs j hj i z
  · rcases mem j i hi with ⟨z, y⟩ | ⟨z, y⟩
    · rw [z, y, r1]
      exact ⟨n0, n1⟩
    · rw [r2 j i y]
      exact W.rn j hj i z
  · rcases mem j i hi with ⟨z, y⟩ | ⟨z, y⟩
    · rw [z, y, r1]
      exact hw
    · rw [r2 j i y]
      exact W.rw_ j hj i z
  · rcases mem j i hi with ⟨z, y⟩ | ⟨z, y⟩
    · subst z y
      rcases mem j k hk2 with ⟨_, x⟩ | ⟨x, x2⟩
      · exact x.symm
      · rw [r1, r2 j k x2] at a b
        exact (nk k x a.symm b.symm).elim
    · rcases mem j k hk2 with ⟨x, x2⟩ | ⟨x, x2⟩
      · subst x x2
        rw [r1, r2 j i y] at a b
        exact (nk i z a b).elim
      · rw [r2 j i y, r2 j k x2] at a b
        exact W.ky j hj i z k x a b
  · by_cases z : j = s
    · rw [z, q1]
      split
      · exact nodup_qAdd (W.qn s hs)
      · exact W.qn s hs
    · rw [q2 j z]
      exact W.qn j hj
  · by_cases z : j = s
    · rw [z, q1] at hi
      rw [z, e1, List.mem_append, List.mem_singleton]
      split at hi
      · unfold qAdd at hi
        split at hi
        · exact .inl (W.qe s hs i hi)
        · rw [List.mem_append, List.mem_singleton] at hi
          exact hi.imp (W.qe s hs i) id
      · exact .inl (W.qe s hs i hi)
    · rw [q2 j z] at hi
      rw [e2 j z]
      exact W.qe j hj i hi
theorem WF.start {P N : Int} (p2 : 2 ≤ P) (p6 : P ≤ 6) (n3 : 3 ≤ N) (n8 : N ≤ 8) : WF (newSys P N) := by
  have nt : ∀ q t, ¬ some t ∈ (newSys P N).tab q := fun q t h => by
    have := List.eq_of_mem_replicate (show some t ∈ List.replicate N.toNat none from h)
    cases this
  refine ⟨p2, p6, n3, n8, by show [(0 : Int)].Nodup; decide, fun p hp => ?_, fun p hp => List.length_replicate .., fun p hp t h => absurd h (nt p t), fun t => ⟨fun ⟨q, _, h⟩ => absurd h (nt q t), fun h => h.elim (fun z => absurd z List.not_mem_nil) fun z => absurd z List.not_mem_nil⟩, fun t h => absurd h List.not_mem_nil, List.nodup_nil, List.nodup_nil, fun t h => absurd h List.not_mem_nil, fun s h => absurd h List.not_mem_nil, fun s h => absurd h List.not_mem_nil, fun s h => absurd h List.not_mem_nil, fun s h => absurd h List.not_mem_nil, fun s h => absurd h List.not_mem_nil, fun s h => absurd h List.not_mem_nil, fun s h => absurd h List.not_mem_nil, fun s h => absurd h List.not_mem_nil⟩
  rw [List.mem_singleton.mp (show p ∈ [(0 : Int)] from hp)]
  show (0 : Int) ≤ 0 ∧ 0 < P
  omega
end

def toI : V → Int
  | .int i => i
  | _ => 0
def toS : V → Str
  | .str z => z
  | _ => Str.empty
def goalOf (S : Sys) (p : Int) (to : V) : Except Er Nat := if to = .non then (match firstN (S.tab p) with
    | some m => .ok m
    | none => .error (.full (.int p))) else if inB to 0 (S.N - 1) = true then .ok (toI to).toNat else .error (.num to)
def copyM (S : Sys) (p n to : V) : Except Er (Nat × Int) := match thing S p n with
  | .ok t => (match goalOf S (toI p) to with
    | .ok m => .ok (m, t)
    | .error e => .error e)
  | .error e => .error e
theorem inB_ok {x : V} {a b : Int} (h : inB x a b = true) : ∃ j, x = .int j ∧ a ≤ j ∧ j ≤ b := by
  cases x with
  | int j =>
    have h : (decide (a ≤ j) && decide (j ≤ b)) = true := h
    rw [Bool.and_eq_true, decide_eq_true_eq, decide_eq_true_eq] at h
    exact ⟨j, rfl, h⟩
  | _ => cases h
theorem inB_of {j a b : Int} (h1 : a ≤ j) (h2 : j ≤ b) : inB (.int j) a b = true := by
  show (decide (a ≤ j) && decide (j ≤ b)) = true
  rw [decide_eq_true h1, decide_eq_true h2]
  rfl
def firstP (S : Sys) : Option Nat := (List.range S.P.toNat).find? fun m => !decide ((m : Int) ∈ S.procs)
theorem firstP_some {S : Sys} {m : Nat} (h : firstP S = some m) : FreeP S m := by
  unfold firstP at h
  rw [List.find?_eq_some_iff_getElem] at h
  obtain ⟨h1, i, hi, e, h2⟩ := h
  rw [List.getElem_range] at e
  subst e
  rw [List.length_range] at hi
  have h1 : (i : Int) ∉ S.procs := by
    rw [Bool.not_eq_true', decide_eq_false_iff_not] at h1
    exact h1
  refine ⟨h1, fun j hj => ?_, by omega⟩
  have := h2 j hj
  rw [List.getElem_range, Bool.not_not, decide_eq_true_eq] at this
  exact this
theorem firstP_none {S : Sys} (h : firstP S = none) : NoFree S := by
  unfold firstP at h
  rw [List.find?_eq_none] at h
  refine ⟨fun i hi => ?_⟩
  have := h i (List.mem_range.mpr (by omega))
  rw [Bool.not_eq_true, Bool.not_eq_false', decide_eq_true_eq] at this
  exact this
theorem freeP_uniq {S : Sys} {m n : Nat} (a : FreeP S m) (b : FreeP S n) : m = n := by
  rcases Nat.lt_trichotomy m n with h | h | h
  · exact absurd (b.lo m h) a.no
  · exact h
  · exact absurd (a.lo n h) b.no
theorem firstP_of {S : Sys} {m : Nat} (h : FreeP S m) : firstP S = some m := by
  cases e : firstP S with
  | none => exact absurd ((firstP_none e).all m h.hi) h.no
  | some n => rw [freeP_uniq (firstP_some e) h]
def forkM (S : Sys) (p : V) : Except Er (Int × Nat) := match tabOf S p with
  | .ok q => (match firstP S with
    | some m => .ok (q, m)
    | none => .error .noroom)
  | .error e => .error e
/-- the first i numbers of a process are closed -/
def endUp (S : Sys) (p : Int) : Nat → Sys
  | 0 => S
  | i + 1 => match ((endUp S p i).tab p)[i]? with
    | some (some t) => closed (endUp S p i) p (i : Int) t
    | _ => endUp S p i
def endS (S : Sys) (p : Int) : Sys := goneP (endUp S p S.N.toNat) p
theorem closed_lim {S : Sys} {p n t : Int} : (closed S p n t).N = S.N ∧ (closed S p n t).P = S.P := by
  unfold closed ended
  split
  · exact ⟨rfl, rfl⟩
  · split <;> exact ⟨rfl, rfl⟩
section
variable {P : Program} {w : World} {K : PySem.W.Frag} {mg : Str → Option Value} {base : Heap} {C : Cs} {D : Es}
/-! close -/
def spCloseX (C : Cs) (D : Es) : Sp := fun vs H Q E => ∃ p n : V, OnSys C vs H [p, n] fun S ad dx => WF S ∧ Flat H p ∧ Flat H n ∧ Res D H E (thing S p n) fun t => ∀ H' ad', At C H' (closed S (toI p) (toI n) t) ad' dx → Step H S ad H' (closed S (toI p) (toI n) t) ad' → Q .non H'
theorem scClose : FnScope ["self", "process", "number"] ["self", "process", "number"] (defScope sClose) := ⟨rfl, rfl, rfl, by decide +kernel, rfl, by decide +kernel, by decide +kernel⟩
theorem okCloseX {f fT fF : Addr} {fd fdT fdF : FuncData} (F : Fun K "close" "System.close" sClose f fd) (T : ClsF K C.S sysF) (GT : MX P w K mg base 4 C.S "thing_at" ["self", "process", "number"] (spThingX C D) fT fdT) (GF : MO P w K mg base 4 C.S "free" ["self", "process", "number"] (spFree C) fF fdF) :
    FnOk P w K mg base (L2.CX P w) 5 f fd ["self", "process", "number"] (spCloseX C D) := by
  refine F.okX scClose (fun vs H Q E h => ?_) (fun cdv A outer s H vs Q E hr h => ?_)
  · obtain ⟨_, _, _, _, _, rfl, _⟩ := h
    rfl
  · obtain ⟨p, n, S, ad, dx, rfl, A0, W, fp, fn, k⟩ := h
    refine ⟨_, pss_cons (ps_expr (pe_meth (pv 0) T.cl GT.m GT.g hr GT.b .nil (passX (takes_of rfl rfl rfl rfl)) (pa_cons (pv 1) (pa_cons (pv 2) pa_nil))))
      (pss_one (ps_expr (pe_meth (pv 0) T.cl GF.m GF.g hr GF.b .nil pass0 (pa_cons (pv 1) (pa_cons (pv 2) pa_nil))))), ?_⟩
    have hb := A0.at_ .box trivial
    walk_at "wn"
    refine ⟨_, rfl, ad .box, dx .box, _, rfl, hb, rfl, ?_⟩
    walk_at "wn"
    refine ⟨p, n, S, ad, dx, rfl, A0, W, fp, fn, ?_⟩
    cases et : thing S p n with
    | error e =>
      rw [et] at k
      exact k
    | ok t =>
      rw [et] at k
      obtain ⟨i, j, rfl, rfl, M⟩ := thing_ok et
      refine res_ok rfl ?_
      walk_at "wn"
      refine ⟨_, rfl, ad .box, dx .box, _, rfl, hb, rfl, ?_⟩
      walk_at "wn"
      exact ⟨i, j, t, S, ad, dx, rfl, A0, M, by have := W.pl; omega, fun h => (W.kind M).resolve_right h, W.tidy, fun H' ad' A1 st1 _ => k H' ad' A1 st1⟩
/-! copy -/
def spCopyX (C : Cs) (D : Es) : Sp := fun vs H Q E => ∃ p n to : V, OnSys C vs H [p, n, to] fun S ad dx => WF S ∧ Flat H p ∧ Flat H n ∧ Flat H to ∧ Res D H E (copyM S p n to) fun r => ∀ H' ad', At C H' (pasted S (toI p) r.1 r.2) ad' dx → Step H S ad H' (pasted S (toI p) r.1 r.2) ad' → Q (.int (r.1 : Int)) H'
theorem scCopy : FnScope ["self", "process", "number", "to", "thing", "goal", "table"] ["self", "process", "number", "to"] (defScope sCopy) := ⟨rfl, rfl, rfl, by decide +kernel, rfl, by decide +kernel, by decide +kernel⟩
theorem okCopyX {dvs : List V} {kws : List (Str × V)} {f fT fN fF fR : Addr} {fd fdT fdN fdF fdR : FuncData} (F : FunD K "copy" "System.copy" (defArgs sCopy) (defBody sCopy) (defScope sCopy) dvs kws f fd) (T : ClsF K C.S sysF) (R : ErTx P w K mg base D)
    (GT : MX P w K mg base 4 C.S "thing_at" ["self", "process", "number"] (spThingX C D) fT fdT) (GN : MO P w K mg base 3 C.S "is_table_number" ["self", "number"] (spNumX C) fN fdN) (GF : MX P w K mg base 4 C.S "free_number" ["self", "process"] (spFreeX C D) fF fdF) (GR : MO P w K mg base 4 C.S "free" ["self", "process", "number"] (spFree C) fR fdR) :
    FnOk P w K mg base (L2.CX P w) 5 f fd ["self", "process", "number", "to"] (spCopyX C D) := by
  refine F.ok scCopy (fun vs H Q E h => ?_) (fun cdv A outer s H vs Q E hr h => ?_)
  · obtain ⟨_, _, _, _, _, _, rfl, _⟩ := h
    rfl
  · obtain ⟨p0, n, to, S, ad, dx, rfl, A0, W, fp, fn, ft, k⟩ := h
    have hu := hu_of hr
    have hr2 : Room 2 _ := hr.mono (by decide)
    have hr3 : Room 3 _ := hr.mono (by decide)
    refine ⟨_, pss_cons (ps_set (i := 4) scCopy.nd rfl (Or.inl rfl) (pe_meth (pv 0) T.cl GT.m GT.g hr GT.b .nil (passX (takes_of rfl rfl rfl rfl)) (pa_cons (pv 1) (pa_cons (pv 2) pa_nil))))
      (pss_cons (ps_if (PW.pt (pw_and (pt_cmpR oNotN (pv 3) pe_non (nomark _)) (pw_and1 (pt_not (pt_val (pe_meth (pv 0) T.cl GN.m GN.g hr3 GN.b .nil pass0 (pa_cons (pv 3) pa_nil))))))) (pss_one (ps_thr R.num bxLookup (takes_of rfl rfl rfl rfl) hr2 (pv 3))) pss_nil)
      (pss_cut (ps_set (i := 5) scCopy.nd rfl (Or.inl rfl) (pe_ifExp (pt_cmpR oIsN (pv 3) pe_non (nomark _)) (pe_meth (pv 0) T.cl GF.m GF.g hr GF.b .nil (passX (takes_of rfl rfl rfl rfl)) (pa_cons (pv 1) pa_nil)) (pv 3)))
      (pss_cons (ps_set (i := 6) scCopy.nd rfl (Or.inl rfl) (pe_dget hu (pe_fld (pv 0) rfl) (pv 1) (fun _ _ => rfl)))
      (pss_cons (ps_if (pt_cmpR op_ne (pe_ix ix_list (pv 6) (pv 5) (fun _ _ => rfl)) (pv 4) (nomark _))
        (pss_cons (ps_if (pt_cmpR oNotN (pe_ix ix_list (pv 6) (pv 5) (fun _ _ => rfl)) pe_non (nomark _)) (pss_one (ps_expr (pe_meth (pv 0) T.cl GR.m GR.g hr GR.b .nil pass0 (pa_cons (pv 1) (pa_cons (pv 5) pa_nil))))) pss_nil)
        (pss_one (ps_asg (pv 4) (pg_sub (pv 6) (pv 5) set_list)))) pss_nil)
      (pss_one (ps_ret (pv 5))))))), ?_⟩
    have hb := A0.at_ .box trivial
    walk_at "wn"
    refine ⟨_, rfl, ad .box, dx .box, _, rfl, hb, rfl, ?_⟩
    walk_at "wn"
    refine ⟨p0, n, S, ad, dx, rfl, A0, W, fp, fn, ?_⟩
    unfold copyM at k
    cases et : thing S p0 n with
    | error e =>
      rw [et] at k
      exact k
    | ok t =>
    rw [et] at k
    obtain ⟨p, j, rfl, rfl, M⟩ := thing_ok et
    have k : Res D H E (match goalOf S p to with
      | .ok m => .ok (m, t)
      | .error e => .error e) fun r => ∀ H' ad', At C H' (pasted S p r.1 r.2) ad' dx → Step H S ad H' (pasted S p r.1 r.2) ad' → Q (.int (r.1 : Int)) H' := k
    have tl := W.tl p M.pr
    have N3 := W.N3
    refine res_ok rfl ?_
    -- what it is copied onto
    have body : ∀ m : Nat, goalOf S p to = .ok m → m < (S.tab p).length → ∀ H', Same H H' → (∀ H2 ad', At C H2 (pasted S p m t) ad' dx → Step H' S ad H2 (pasted S p m t) ad' → Q (.int (m : Int)) H2) := fun m em _ H' s H2 ad' A2 st2 => by
      rw [em] at k
      exact k H2 ad' A2 ((Step.same s).trans st2)
    by_cases hn : to = .non
    · subst hn
      have eg : goalOf S p .non = (match firstN (S.tab p) with
        | some m => .ok m
        | none => .error (.full (.int p))) := if_pos rfl
      walk_at "wn"
      refine ⟨fun σ' H' => ∃ m : Nat, goalOf S p .non = .ok m ∧ m < (S.tab p).length ∧ σ' = [some (.ref (ad .box)), some (.int p), some (.int j), some .non, some (.int t), some (.int (m : Int)), none] ∧ Same H H', ?_, ?_⟩
      · walk_at "wn"
        refine ⟨_, rfl, ad .box, dx .box, _, rfl, hb, rfl, ?_⟩
        walk_at "wn"
        refine ⟨.int p, S, ad, dx, rfl, A0, W, fp, ?_⟩
        rw [eg] at k
        unfold freeOf
        rw [tabOf_of M.pr]
        show Res D H E (match firstN (S.tab p) with
          | some n => .ok (p, n)
          | none => .error (.full (.int p))) _
        cases ef : firstN (S.tab p) with
        | none =>
          rw [ef] at k
          exact k
        | some m =>
          refine res_ok rfl fun H1 s1 => ?_
          walk_at "wn"
          exact ⟨m, by rw [eg, ef], (List.getElem?_eq_some_iff.mp (firstN_some ef).1).1, rfl, s1⟩
      rintro σ' H1 ⟨m, em, hml, rfl, s1⟩
      have k := body m em hml H1 s1
      replace A0 := A0.same s1
      have hb := A0.at_ .box trivial
      obtain ⟨y, hy⟩ : ∃ y, (S.tab p)[m]? = some y := ⟨_, List.getElem?_eq_getElem hml⟩
      walk_at "wn"
      have ht := A0.at_ (.tab p) M.pr
      have hv : valV (entKV S.procs fun p => ad (.tab p)) (Sum.inl p) = some (.ref (ad (.tab p))) := by rw [ent_val, if_pos M.pr]
      have hat : atI ((S.tab p).map optV) (m : Int) = some (optV y) := atI_nat (by rw [List.getElem?_map, hy]; rfl)
      refine ⟨_, rfl, ad .box, C.S, dx .box, _, _, rfl, hb, T.cl, T.no _ (by decide), rfl, ?_⟩
      refine ⟨_, rfl, ad .tabD, _, rfl, hv ▸ DGet.k (k := Sum.inl p) (A0.at_ .tabD trivial), ?_⟩
      walk_at "wn"
      refine ⟨ad (.tab p), _, (m : Int), _, rfl, rfl, SqL.of ht, hat, ?_⟩
      walk_at "wn"

      cases y with
      | none =>
        refine g_rNe rfl ?_
        rw [decide_eq_false (show ¬ optV none = V.int t from fun z => nomatch z)]
        walk_at "wn"
        refine ⟨ad (.tab p), _, (m : Int), _, rfl, rfl, SqL.of ht, hat, ?_⟩
        walk_at "wn"
        refine ⟨ad (.tab p), _, (m : Int), m, rfl, rfl, ht, by rw [List.length_map]; exact ixN_nat hml, ?_⟩
        walk_at "wn"
        have e : pasted S p m t = copied S p m t := by unfold pasted; rw [hy]
        rw [e] at k
        exact k _ ad (A0.cop M.pr).1 (A0.cop M.pr).2
      | some u =>
        by_cases hut : u = t
        · refine g_rNe rfl ?_
          rw [decide_eq_true (show optV (some u) = V.int t from congrArg V.int hut)]
          walk_at "wn"
          have e : pasted S p m t = S := by unfold pasted; rw [hy]; exact if_pos hut
          rw [e] at k
          exact k _ ad A0 (Step.refl)
        · refine g_rNe rfl ?_
          rw [decide_eq_false (show ¬ optV (some u) = V.int t from fun z => hut (V.int.inj z))]
          walk_at "wn"
          refine ⟨ad (.tab p), _, (m : Int), _, rfl, rfl, SqL.of ht, hat, ?_⟩
          walk_at "wn"
          rw [decide_eq_false (show ¬ optV (some u) = V.non from fun z => nomatch z)]
          walk_at "wn"
          refine ⟨_, rfl, ad .box, dx .box, _, rfl, hb, rfl, ?_⟩
          walk_at "wn"
          refine ⟨p, (m : Int), u, S, ad, dx, rfl, A0, ⟨M.pr, by omega, by omega, by rw [Int.toNat_natCast]; exact hy⟩, by have := W.pl; omega, fun h => (W.kind (n := (m : Int)) ⟨M.pr, by omega, by omega, by rw [Int.toNat_natCast]; exact hy⟩).resolve_right h, W.tidy, fun H1 ad1 A1 st1 tb1 => ?_⟩
          have e : pasted S p m t = copied (closed S p (m : Int) u) p m t := by unfold pasted; rw [hy]; exact if_neg hut
          rw [e] at k
          have hp1 : p ∈ (closed S p (m : Int) u).procs := by rw [closed_procs]; exact M.pr
          have ht1 := A1.at_ (.tab p) hp1
          have ct := (A1.cop (t := t) (m := m) hp1)
          rw [tb1 p] at ht1 ct
          have hl1 : ((closed S p (m : Int) u).tab p).length = (S.tab p).length := by
            rw [closed_tab]
            show (if p = p then (S.tab p).set (m : Int).toNat none else S.tab p).length = _
            rw [if_pos rfl, List.length_set]
          walk_at "wn"
          refine ⟨ad (.tab p), _, (m : Int), m, rfl, rfl, ht1, by rw [List.length_map, hl1]; exact ixN_nat hml, ?_⟩
          walk_at "wn"
          exact k _ ad1 ct.1 (st1.trans ct.2)
    · have e0 : decide (to = V.non) = false := decide_eq_false hn
      have eg : goalOf S p to = if inB to 0 (S.N - 1) = true then .ok (toI to).toNat else .error (.num to) := if_neg hn
      walk_at "wn"
      rw [e0]
      walk_at "wn"
      refine ⟨_, rfl, ad .box, dx .box, _, rfl, hb, rfl, ?_⟩
      walk_at "wn"
      refine ⟨to, S, ad, dx, rfl, A0, ft.ob, ?_⟩
      cases hi : inB to 0 (S.N - 1) with
      | false =>
        rw [eg, hi] at k
        refine ⟨_, rfl, ?_⟩
        refine iteT ?_
        exact g_thr rfl ft k
      | true =>
      obtain ⟨j2, rfl, j0, j1⟩ := inB_ok hi
      obtain ⟨m, rfl⟩ := Int.eq_ofNat_of_zero_le j0
      have em : goalOf S p (.int (m : Int)) = .ok m := by rw [eg, if_pos hi]; rfl
      refine ⟨_, rfl, ?_⟩
      refine iteF ?_
      refine ⟨fun σ' H' => goalOf S p (.int (m : Int)) = .ok m ∧ m < (S.tab p).length ∧ σ' = [some (.ref (ad .box)), some (.int p), some (.int j), some (.int (m : Int)), some (.int t), some (.int (m : Int)), none] ∧ Same H H', ?_, ?_⟩
      · walk_at "wn"
        rw [e0]
        walk_at "wn"
        exact ⟨em, by omega, rfl, Same.refl _⟩
      rintro σ' H1 ⟨em, hml, rfl, s1⟩
      have k := body m em hml H1 s1
      replace A0 := A0.same s1
      have hb := A0.at_ .box trivial
      obtain ⟨y, hy⟩ : ∃ y, (S.tab p)[m]? = some y := ⟨_, List.getElem?_eq_getElem hml⟩
      walk_at "wn"
      have ht := A0.at_ (.tab p) M.pr
      have hv : valV (entKV S.procs fun p => ad (.tab p)) (Sum.inl p) = some (.ref (ad (.tab p))) := by rw [ent_val, if_pos M.pr]
      have hat : atI ((S.tab p).map optV) (m : Int) = some (optV y) := atI_nat (by rw [List.getElem?_map, hy]; rfl)
      refine ⟨_, rfl, ad .box, C.S, dx .box, _, _, rfl, hb, T.cl, T.no _ (by decide), rfl, ?_⟩
      refine ⟨_, rfl, ad .tabD, _, rfl, hv ▸ DGet.k (k := Sum.inl p) (A0.at_ .tabD trivial), ?_⟩
      walk_at "wn"
      refine ⟨ad (.tab p), _, (m : Int), _, rfl, rfl, SqL.of ht, hat, ?_⟩
      walk_at "wn"

      cases y with
      | none =>
        refine g_rNe rfl ?_
        rw [decide_eq_false (show ¬ optV none = V.int t from fun z => nomatch z)]
        walk_at "wn"
        refine ⟨ad (.tab p), _, (m : Int), _, rfl, rfl, SqL.of ht, hat, ?_⟩
        walk_at "wn"
        refine ⟨ad (.tab p), _, (m : Int), m, rfl, rfl, ht, by rw [List.length_map]; exact ixN_nat hml, ?_⟩
        walk_at "wn"
        have e : pasted S p m t = copied S p m t := by unfold pasted; rw [hy]
        rw [e] at k
        exact k _ ad (A0.cop M.pr).1 (A0.cop M.pr).2
      | some u =>
        by_cases hut : u = t
        · refine g_rNe rfl ?_
          rw [decide_eq_true (show optV (some u) = V.int t from congrArg V.int hut)]
          walk_at "wn"
          have e : pasted S p m t = S := by unfold pasted; rw [hy]; exact if_pos hut
          rw [e] at k
          exact k _ ad A0 (Step.refl)
        · refine g_rNe rfl ?_
          rw [decide_eq_false (show ¬ optV (some u) = V.int t from fun z => hut (V.int.inj z))]
          walk_at "wn"
          refine ⟨ad (.tab p), _, (m : Int), _, rfl, rfl, SqL.of ht, hat, ?_⟩
          walk_at "wn"
          rw [decide_eq_false (show ¬ optV (some u) = V.non from fun z => nomatch z)]
          walk_at "wn"
          refine ⟨_, rfl, ad .box, dx .box, _, rfl, hb, rfl, ?_⟩
          walk_at "wn"
          refine ⟨p, (m : Int), u, S, ad, dx, rfl, A0, ⟨M.pr, by omega, by omega, by rw [Int.toNat_natCast]; exact hy⟩, by have := W.pl; omega, fun h => (W.kind (n := (m : Int)) ⟨M.pr, by omega, by omega, by rw [Int.toNat_natCast]; exact hy⟩).resolve_right h, W.tidy, fun H1 ad1 A1 st1 tb1 => ?_⟩
          have e : pasted S p m t = copied (closed S p (m : Int) u) p m t := by unfold pasted; rw [hy]; exact if_neg hut
          rw [e] at k
          have hp1 : p ∈ (closed S p (m : Int) u).procs := by rw [closed_procs]; exact M.pr
          have ht1 := A1.at_ (.tab p) hp1
          have ct := (A1.cop (t := t) (m := m) hp1)
          rw [tb1 p] at ht1 ct
          have hl1 : ((closed S p (m : Int) u).tab p).length = (S.tab p).length := by
            rw [closed_tab]
            show (if p = p then (S.tab p).set (m : Int).toNat none else S.tab p).length = _
            rw [if_pos rfl, List.length_set]
          walk_at "wn"
          refine ⟨ad (.tab p), _, (m : Int), m, rfl, rfl, ht1, by rw [List.length_map, hl1]; exact ixN_nat hml, ?_⟩
          walk_at "wn"
          exact k _ ad1 ct.1 (st1.trans ct.2)
/-! fork -/
def spForkX (C : Cs) (D : Es) : Sp := fun vs H Q E => ∃ x : V, OnSys C vs H [x] fun S ad dx => WF S ∧ Flat H x ∧ Res D H E (forkM S x) fun r => ∀ H' ad', At C H' (forked S r.1 r.2) ad' dx → Step H S ad H' (forked S r.1 r.2) ad' → Q (.int (r.2 : Int)) H'
def spFreeProc (C : Cs) : Sp := fun vs H Q _ => OnSys C vs H [] fun S ad dx => S.P ≤ 1000 ∧ 0 ≤ S.P ∧ (∀ m : Nat, FreeP S m → Q (.int (m : Int)) H) ∧ (NoFree S → Q .non H)
theorem scFreeProc : FnScope ["self", "process"] ["self"] (defScope sFreeProc) := ⟨rfl, rfl, rfl, by decide +kernel, rfl, by decide +kernel, by decide +kernel⟩
theorem okFreeProc {f : Addr} {fd : FuncData} (F : Fun K "free_process" "System.free_process" sFreeProc f fd) (rng : mg "range" = none) (T : ClsF K C.S sysF) : FnOk P w K mg base CX0 1 f fd ["self"] (spFreeProc C) := by
  refine F.ok scFreeProc (fun vs H Q E h => ?_) (fun cdv A outer s H vs Q E hr h => ?_)
  · obtain ⟨_, _, _, rfl, _⟩ := h
    rfl
  · obtain ⟨S, ad, dx, rfl, A0, h2, h0, k, kn⟩ := h
    have hu := hu_of hr
    refine ⟨_, pss_cons (ps_for PassesOwn.never rfl (pi_range1 (by rfl) rng (pa_cons (pe_fld (pv 0) rfl) pa_nil)) (pg_name (i := 1) scFreeProc.nd rfl (Or.inl rfl))
      (pss_one (ps_if (pt_cmp (pc_dnotin hu (pv 1) (pe_fld (pv 0) rfl)) rfl) (pss_one (ps_ret (pv 1))) pss_nil))) (pss_one (ps_ret pe_non)), ?_⟩
    have hb := A0.at_ .box trivial
    walk_at "wn"
    show iRng1 _ _ _ _
    show tCons _ _ _ _ _
    walk_at "wn"
    refine ⟨_, rfl, ad .box, C.S, dx .box, _, _, rfl, hb, T.cl, T.no _ (by decide), rfl, ?_⟩
    walk_at "wn"
    refine ⟨_, rfl, by omega, by omega, ?_⟩
    refine for_range (lo := 0) (fun i σ' H1 => ∃ u : Option V, σ' = [some (.ref (ad .box)), u] ∧ H1 = H ∧ ∀ j : Nat, j < i → (j : Int) ∈ S.procs) ⟨_, rfl, rfl, fun j h => absurd h (Nat.not_lt_zero _)⟩ ?_ ?_
    · rintro i σ' H1 hi ⟨u, rfl, rfl, him⟩
      walk_at "wn"
      refine ⟨_, rfl, _, rfl, ad .box, C.S, dx .box, _, _, rfl, hb, T.cl, T.no _ (by decide), rfl, ?_⟩
      refine ⟨ad .tabD, _, rfl, DGet.k (k := Sum.inl (0 + (i : Int))) (A0.at_ .tabD trivial), ?_⟩
      rw [ent_val, Int.zero_add]
      by_cases hm : (i : Int) ∈ S.procs
      · rw [if_pos hm]
        refine ⟨_, rfl, ?_⟩
        show if false = true then _ else _
        walk_at "wn"
        refine ⟨_, rfl, rfl, fun j hj => ?_⟩
        rcases Nat.lt_or_ge j i with z | z
        · exact him j z
        · rw [show j = i by omega]
          exact hm
      · rw [if_neg hm]
        refine ⟨_, rfl, ?_⟩
        show if true = true then _ else _
        walk_at "wn"
        exact k i ⟨hm, him, by omega⟩
    · rintro σ' H1 ⟨u, rfl, rfl, him⟩
      walk_at "wn"
      exact kn ⟨fun i hi => him i (by omega)⟩
theorem scFork : FnScope ["self", "process", "table", "other"] ["self", "process"] (defScope sFork) := ⟨rfl, rfl, rfl, by decide +kernel, rfl, by decide +kernel, by decide +kernel⟩
theorem okForkX {f fT fF : Addr} {fd fdT fdF : FuncData} (F : Fun K "fork" "System.fork" sFork f fd) (X : SysTxt mg) (lst : mg "list" = none) (T : ClsF K C.S sysF) (R : ErTx P w K mg base D) (GT : MX P w K mg base 3 C.S "table_of" ["self", "process"] (spTabX C D) fT fdT) (GF : MO P w K mg base 1 C.S "free_process" ["self"] (spFreeProc C) fF fdF) :
    FnOk P w K mg base (L2.CX P w) 4 f fd ["self", "process"] (spForkX C D) := by
  refine F.okX scFork (fun vs H Q E h => ?_) (fun cdv A outer s H vs Q E hr h => ?_)
  · obtain ⟨_, _, _, _, rfl, _⟩ := h
    rfl
  · obtain ⟨x, S, ad, dx, rfl, A0, W, fl, k⟩ := h
    obtain ⟨fI, fdI, TE, GI⟩ := R.noroom
    have hu := hu_of hr
    have hr1 : Room 1 _ := hr.mono (by decide)
    have hr2 : Room 2 _ := hr.mono (by decide)
    have hr3 : Room 3 _ := hr.mono (by decide)
    refine ⟨_, pss_cons (ps_set (i := 2) scFork.nd rfl (Or.inl rfl) (pe_meth (pv 0) T.cl GT.m GT.g hr3 GT.b .nil (passX (takes_of rfl rfl rfl rfl)) (pa_cons (pv 1) pa_nil)))
      (pss_cons (ps_set (i := 3) scFork.nd rfl (Or.inl rfl) (pe_meth0 (pv 0) T.cl GF.m GF.g hr1 GF.b .nil pass0))
      (pss_cons (ps_if (pt_cmpR oIsN (pv 3) pe_non (nomark _)) (pss_one (ps_raise rfl (takes_of rfl rfl rfl rfl) (pmk_oxb0 bxOverflow TE.ox TE.iC TE.tI GI hr2 TE.bI pass0 (by rfl) TE.gC))) pss_nil)
      (pss_cons (ps_dput hu (pe_fld (pv 0) rfl) (pv 3) (pe_callTy call_list_of (by rfl) lst PyProof.Rows.boot_list (pa_cons (pv 2) pa_nil)) rfl)
      (pss_one (ps_ret (pv 3)))))), ?_⟩
    have hb := A0.at_ .box trivial
    have hD : H (ad .tabD) = some (.dK (entKV S.procs fun p => ad (.tab p))) := A0.at_ .tabD trivial
    walk_at "wn"
    refine ⟨_, rfl, ad .box, dx .box, _, rfl, hb, rfl, ?_⟩
    walk_at "wn"
    refine ⟨x, S, ad, dx, rfl, A0, fl, ?_⟩
    unfold forkM at k
    cases et : tabOf S x with
    | error e =>
      rw [et] at k
      exact k
    | ok p =>
    rw [et] at k
    obtain ⟨rfl, hp⟩ := tabOf_ok et
    have ht := A0.at_ (.tab p) hp
    have hP : S.P ≤ 1000 := by have := W.P6; omega
    have hP0 : 0 ≤ S.P := by have := W.P2; omega
    have hl : (S.tab p).length ≤ 900 := by have := W.t8 hp; omega
    have hz : S.procs.length ≤ 900 := by have := W.pl; omega
    have k : Res D H E (match firstP S with
      | some m => .ok (p, m)
      | none => .error .noroom) fun r => ∀ H' ad', At C H' (forked S r.1 r.2) ad' dx → Step H S ad H' (forked S r.1 r.2) ad' → Q (.int (r.2 : Int)) H' := k
    have kn : NoFree S → OutN D.noroom H E := fun h => by
      cases e : firstP S with
      | none =>
        rw [e] at k
        exact k
      | some m => exact absurd (h.all m (firstP_some e).hi) (firstP_some e).no
    have k : ∀ m : Nat, FreeP S m → ∀ H' ad', At C H' (forked S p m) ad' dx → Step H S ad H' (forked S p m) ad' → Q (.int (m : Int)) H' := fun m h => by
      rw [firstP_of h] at k
      exact k
    refine res_ok rfl ?_
    walk_at "wn"
    refine ⟨_, rfl, ad .box, dx .box, _, rfl, hb, rfl, ?_⟩
    walk_at "wn"
    refine ⟨S, ad, dx, rfl, A0, hP, hP0, fun m M => ?_, fun N => ?_⟩
    case refine_2 =>
      walk_at "wn"
      refine fun a ha => ⟨a, rfl, upd_same, rfl, upd_same, ?_⟩
      refine kn N _ fun b o e => ?_
      rw [del_ne (ne_of_none e ha), upd_ne (ne_of_none e ha)]
      exact e
    walk_at "wn"
    have e : decide (V.int (m : Int) = V.non) = false := decide_eq_false fun z => nomatch z
    rw [e]
    walk_at "wn"
    refine ⟨_, rfl, ad (.tab p), _, rfl, .inl (SqL.of ht), fun r hr0 => ?_⟩
    have nbr : ad .box ≠ r := ne_of_none hb hr0
    have nDr : ad .tabD ≠ r := ne_of_none hD hr0
    refine ⟨_, rfl, ad .box, C.S, dx .box, _, _, rfl, by rw [upd_ne nbr]; exact hb, T.cl, T.no _ (by decide), rfl, ?_⟩
    refine ⟨_, rfl, ad .tabD, _, rfl, DPut.k (k := Sum.inl (m : Int)) (by rw [upd_ne nDr]; exact hD) (by unfold entKV; rw [List.length_map, sizeLine_eq]; omega), ?_⟩
    walk_at "wn"
    refine (fun z : At C _ _ _ _ ∧ Step H S ad _ _ _ => k m M _ (setA ad (.tab (m : Int)) r) z.1 z.2) ?_
    refine At.re3 [.tabD, .tab (m : Int)] A0 (fun c lc => ?_) (fun c hc lc => ?_) (fun c hc lc => ?_) (fun c hc lc => ?_) (fun c hc c' hc' lc lc' z e => ?_) (fun b o nb e => ?_) (setA_ne (by intro z; cases z))
    · cases c with
      | tab t =>
        rcases List.mem_append.mp (show t ∈ S.procs ++ [(m : Int)] from lc) with y | y
        · exact .inr y
        · rw [List.mem_singleton.mp y]
          exact .inl (by simp)
      | _ => exact .inr lc
    · simp only [List.mem_cons, List.not_mem_nil, or_false] at hc
      rcases hc with rfl | rfl
      · rw [setA_ne (by intro z; cases z), upd_same, ent_put, if_neg M.no, tab_fun]
        rfl
      · rw [setA_same, upd_ne (Ne.symm nDr), upd_same]
        show _ = some (HO.lst ((if (m : Int) = (m : Int) then S.tab p else S.tab (m : Int)).map optV))
        rw [if_pos rfl]
    · have n1 : c ≠ .tabD := fun z => hc (by rw [z]; simp)
      have n2 : c ≠ .tab (m : Int) := fun z => hc (by rw [z]; simp)
      refine ⟨setA_ne n2, ?_⟩
      cases c with
      | tabD => exact absurd rfl n1
      | tab j =>
        have nj : j ≠ (m : Int) := fun z => n2 (by rw [z])
        show HO.lst ((if j = (m : Int) then S.tab p else S.tab j).map optV) = _
        rw [if_neg nj]
        rfl
      | _ => rfl
    · simp only [List.mem_cons, List.not_mem_nil, or_false] at hc
      rcases hc with rfl | rfl
      · exact .inl ⟨setA_ne (by intro z; cases z), trivial⟩
      · exact .inr (by rw [setA_same]; exact hr0)
    · simp only [List.mem_cons, List.not_mem_nil, or_false] at hc hc'
      rcases hc with rfl | rfl
      · rw [setA_ne (by intro z; cases z), hD] at z
        cases z
      · rcases hc' with rfl | rfl
        · rw [setA_same, setA_ne (by intro z; cases z)] at e
          exact absurd e (Ne.symm nDr)
        · rfl
    · rw [upd_ne (nb .tabD (by simp) trivial), upd_ne (ne_of_none e hr0)]
      exact e
/-! end -/
end

section
variable {P : Program} {w : World} {K : PySem.W.Frag} {mg : Str → Option Value} {base : Heap} {C : Cs} {D : Es}
def addM (S : Sys) (p sn n l wd : V) : Except Er (Int × Int) := match setOf S p sn with
  | .ok s => (match source S p n with
    | .ok t => if inB l 0 999999 = true then (if isW wd = true then (if ((S.ents s).find? (keyOf (S.reg s) (toI n) t)).isSome = true then .error (.regd n) else if toI l ∈ S.ents s then .error (.taken l) else .ok (s, t)) else .error (.word wd)) else .error (.label l)
    | .error e => .error e)
  | .error e => .error e
def spAddE (C : Cs) (D : Es) : Sp := fun vs H Q E => ∃ p sn n l wd : V, OnSys C vs H [p, sn, n, l, wd] fun S _ _ => WF S ∧ Flat H p ∧ Flat H sn ∧ Flat H n ∧ Flat H l ∧ Flat H wd ∧ flatV wd = true ∧ ∃ e, addM S p sn n l wd = .error e ∧ e.out D H E
theorem okAddE {dvs : List V} {kws : List (Str × V)} {f fW fS fL fD fO : Addr} {fd fdW fdS fdL fdD fdO : FuncData} (F : FunD K "add" "System.add" (defArgs sAdd) (defBody sAdd) (defScope sAdd) dvs kws f fd) (T : ClsF K C.S sysF) (TW : ClsF K C.W wsF) (R : ErTx P w K mg base D)
    (GW : MX P w K mg base 5 C.S "set_at" ["self", "process", "set_number"] (spSetX C D) fW fdW) (GS : MX P w K mg base 5 C.S "source_at" ["self", "process", "number"] (spSourceX C D) fS fdS)
    (GL : DO P w K mg base 3 "is_label" ["x"] spLabelX fL fdL) (GD : DO P w K mg base 1 "is_word" ["x"] spWordX fD fdD) (GO : MO P w K mg base 1 C.W "label_of" ["self", "number", "source"] (spLabelOf C.W C.R) fO fdO) :
    FnOk P w K mg base (L2.CX P w) 6 f fd ["self", "process", "set_number", "number", "label", "word"] (spAddE C D) := by
  refine F.ok scAdd (fun vs H Q E h => ?_) (fun cdv A outer s H vs Q E hr h => ?_)
  · obtain ⟨_, _, _, _, _, _, _, _, rfl, _⟩ := h
    rfl
  · obtain ⟨p, sn, n, l, wd, S, ad, dx, rfl, A0, W, fp, fsn, fn, fl, fw, fw2, e, he, k⟩ := h
    have hu := hu_of hr
    have hr1 : Room 1 _ := hr.mono (by decide)
    have hr2 : Room 2 _ := hr.mono (by decide)
    have hr3 : Room 3 _ := hr.mono (by decide)
    refine ⟨_, pss_cons (ps_set (i := 6) scAdd.nd rfl (Or.inl rfl) (pe_meth (pv 0) T.cl GW.m GW.g hr GW.b .nil (passX (takes_of rfl rfl rfl rfl)) (pa_cons (pv 1) (pa_cons (pv 2) pa_nil))))
      (pss_cons (ps_set (i := 7) scAdd.nd rfl (Or.inl rfl) (pe_meth (pv 0) T.cl GS.m GS.g hr GS.b .nil (passX (takes_of rfl rfl rfl rfl)) (pa_cons (pv 1) (pa_cons (pv 3) pa_nil))))
      (pss_cons (ps_if (pt_not (pt_val (pe_call GL.g hr3 (by rfl) GL.m GL.k GL.b .nil pass0 (pa_cons (pv 4) pa_nil)))) (pss_one (ps_thr R.label bxValue (takes_of rfl rfl rfl rfl) hr2 (pv 4))) pss_nil)
      (pss_cons (ps_if (pt_not (pt_val (pe_call GD.g hr1 (by rfl) GD.m GD.k GD.b .nil pass0 (pa_cons (pv 5) pa_nil)))) (pss_one (ps_thr R.word bxValue (takes_of rfl rfl rfl rfl) hr2 (pv 5))) pss_nil)
      (pss_cons (ps_if (pt_cmpR oNotN (pe_meth (pv 6) TW.cl GO.m GO.g hr1 GO.b .nil pass0 (pa_cons (pv 3) (pa_cons (pv 7) pa_nil))) pe_non (nomark _)) (pss_one (ps_thr R.regd bxRuntime (takes_of rfl rfl rfl rfl) hr2 (pv 3))) pss_nil)
      (pss_cons (ps_if (pt_cmp (pc_din hu (pv 4) (pe_fld (pv 6) rfl)) rfl) (pss_one (ps_thr R.taken bxRuntime (takes_of rfl rfl rfl rfl) hr2 (pv 4))) pss_nil) pss_never))))), ?_⟩
    have hb := A0.at_ .box trivial
    unfold addM at he
    walk_at "wn"
    refine ⟨_, rfl, ad .box, dx .box, _, rfl, hb, rfl, ?_⟩
    walk_at "wn"
    refine ⟨p, sn, S, ad, dx, rfl, A0, W, fp, fsn, ?_⟩
    cases es : setOf S p sn with
    | error e' =>
      rw [es] at he
      cases he
      exact k
    | ok s =>
    rw [es] at he
    dsimp only at he
    obtain ⟨_, hs⟩ := setOf_ok es
    refine res_ok rfl ?_
    walk_at "wn"
    refine ⟨_, rfl, ad .box, dx .box, _, rfl, hb, rfl, ?_⟩
    walk_at "wn"
    refine ⟨p, n, S, ad, dx, rfl, A0, W, fp, fn, ?_⟩
    cases et : source S p n with
    | error e' =>
      rw [et] at he
      cases he
      exact k
    | ok t =>
    rw [et] at he
    dsimp only at he
    obtain ⟨⟨i, j, rfl, rfl, M⟩, ht⟩ := source_ok et
    refine res_ok rfl ?_
    walk_at "wn"
    refine ⟨l, rfl, fl.ob, ?_⟩
    cases hl : inB l 0 999999 with
    | false =>
      rw [hl] at he
      cases he
      refine ⟨_, rfl, ?_⟩
      walk_at "wn"
      exact g_thr rfl fl k
    | true =>
    rw [if_pos hl] at he
    refine ⟨_, rfl, ?_⟩
    walk_at "wn"
    refine ⟨wd, rfl, fw2, ?_⟩
    cases hw : isW wd with
    | false =>
      rw [hw] at he
      cases he
      refine ⟨_, rfl, ?_⟩
      walk_at "wn"
      exact g_thr rfl fw k
    | true =>
    rw [if_pos hw] at he
    refine ⟨_, rfl, ?_⟩
    walk_at "wn"
    have hws := A0.at_ (.ws s) hs
    refine ⟨_, rfl, ad (.ws s), dx (.ws s), _, rfl, hws, rfl, ?_⟩
    walk_at "wn"
    refine ⟨ad (.ws s), dx (.ws s), ad (.ent s), ad (.que s), j, t, S.ents s, fun j => ad (.reg s j), S.reg s, rfl, hws, A0.at_ (.ent s) hs, fun j hj => ⟨dx (.reg s j), A0.at_ (.reg s j) ⟨hs, hj⟩⟩, fun H1 s1 => ?_⟩
    have he : (if ((S.ents s).find? (keyOf (S.reg s) j t)).isSome = true then .error (.regd (.int j)) else if toI l ∈ S.ents s then .error (.taken l) else .ok (s, t)) = (.error e : Except Er (Int × Int)) := he
    cases ef : (S.ents s).find? (keyOf (S.reg s) j t) with
    | some l' =>
      rw [ef] at he
      cases he
      walk_at "wn"
      rw [decide_eq_false (show ¬ V.int l' = V.non from fun z => nomatch z)]
      walk_at "wn"
      exact g_thr rfl (fn.same s1) (Er.out_same (e := .regd (.int j)) k s1)
    | none =>
    rw [ef] at he
    have he : (if toI l ∈ S.ents s then .error (.taken l) else .ok (s, t)) = (.error e : Except Er (Int × Int)) := he
    obtain ⟨li, rfl, _, _⟩ := inB_ok hl
    walk_at "wn"
    have A1 := A0.same s1
    refine ⟨_, rfl, _, rfl, ad (.ws s), C.W, dx (.ws s), _, _, rfl, A1.at_ (.ws s) hs, TW.cl, TW.no _ (by decide), rfl, ?_⟩
    refine ⟨ad (.ent s), _, rfl, DGet.k (k := Sum.inl li) (A1.at_ (.ent s) hs), ?_⟩
    have he : (if li ∈ S.ents s then .error (.taken (.int li)) else .ok (s, t)) = (.error e : Except Er (Int × Int)) := he
    rw [ent_val]
    by_cases hm : li ∈ S.ents s
    · rw [if_pos hm] at he ⊢
      cases he
      refine ⟨_, rfl, ?_⟩
      show if true = true then _ else _
      walk_at "wn"
      exact g_thr rfl (fl.same s1) (Er.out_same (e := .taken (.int li)) k s1)
    · rw [if_neg hm] at he
      cases he
end
section
variable {P : Program} {w : World} {K : PySem.W.Frag} {mg : Str → Option Value} {base : Heap} {C : Cs} {D : Es} {k : Nat} {f : Addr} {fd : FuncData} {ps : List Str}
theorem isW_ok {x : V} (h : isW x = true) (f : flatV x = true) : ∃ z, x = .str z ∧ z ∈ wordsL := by
  have h : ([V.str "level", .str "edge", .str "once"].any fun y => eqV y x) = true := h
  simp only [List.any_cons, List.any_nil, Bool.or_false, Bool.or_eq_true] at h
  cases x with
  | str z =>
    refine ⟨z, rfl, ?_⟩
    have go : ∀ y : Str, eqV (.str y) (.str z) = true → z = y := fun y e => by
      have e : decide (y = z) = true := e
      exact (of_decide_eq_true e).symm
    rcases h with e | e | e
    · rw [go _ e]; decide
    · rw [go _ e]; decide
    · rw [go _ e]; decide
  | _ => rcases h with e | e | e <;> cases e
def spAddX (C : Cs) (D : Es) : Sp := fun vs H Q E => ∃ p sn n l wd : V, OnSys C vs H [p, sn, n, l, wd] fun S ad dx => WF S ∧ Flat H p ∧ Flat H sn ∧ Flat H n ∧ Flat H l ∧ Flat H wd ∧ flatV wd = true ∧ Res D H E (addM S p sn n l wd) fun r => ∀ H' ad' dx', At C H' (added S r.1 (toI l) ⟨toI n, r.2, toS wd, true⟩) ad' dx' → Step H S ad H' (added S r.1 (toI l) ⟨toI n, r.2, toS wd, true⟩) ad' → Q .non H'
theorem addM_ok {S : Sys} {p sn n l wd : V} {s t : Int} (fw : flatV wd = true) (h : addM S p sn n l wd = .ok (s, t)) : ∃ i a j b z, p = .int i ∧ sn = .int a ∧ n = .int j ∧ l = .int b ∧ wd = .str z ∧ Means S i a s ∧ s ∈ S.sets ∧ Means S i j t ∧ t ∈ S.srcs ∧ 0 ≤ b ∧ b ≤ 999999 ∧ z ∈ wordsL ∧ (S.ents s).find? (keyOf (S.reg s) j t) = none ∧ b ∉ S.ents s := by
  unfold addM at h
  split at h
  · rename_i s' es
    split at h
    · rename_i t' et
      obtain ⟨⟨i, a, e1, e2, Ms⟩, hs⟩ := setOf_ok es
      obtain ⟨⟨i2, j, e3, e4, Mt⟩, ht⟩ := source_ok et
      subst e1 e2 e4
      cases e3
      split at h
      · rename_i hl
        obtain ⟨b, rfl, b0, b1⟩ := inB_ok hl
        split at h
        · rename_i hw
          obtain ⟨z, rfl, hz⟩ := isW_ok hw fw
          split at h
          · cases h
          · rename_i hk
            split at h
            · cases h
            · rename_i hm
              cases h
              exact ⟨i, a, j, b, z, rfl, rfl, rfl, rfl, rfl, Ms, hs, Mt, ht, b0, b1, hz, Option.not_isSome_iff_eq_none.mp hk, hm⟩
        · cases h
      · cases h
    · cases h
  · cases h
theorem okAddX (F1 : FnOk P w K mg base CX0 k f fd ps (spAdd C)) (F2 : FnOk P w K mg base (L2.CX P w) k f fd ps (spAddE C D)) : FnOk P w K mg base (L2.CX P w) k f fd ps (spAddX C D) :=
  (FnOk.or (FnOk.x F1) F2).imp fun vs H Q E h => by
    obtain ⟨p, sn, n, l, wd, S, ad, dx, rfl, A0, W, fp, fs, fn, fl, fw, fw2, k⟩ := h
    cases e : addM S p sn n l wd with
    | error e1 =>
      rw [e] at k
      exact .inr ⟨p, sn, n, l, wd, S, ad, dx, rfl, A0, W, fp, fs, fn, fl, fw, fw2, e1, e, k⟩
    | ok r =>
      rw [e] at k
      obtain ⟨s, t⟩ := r
      obtain ⟨i, a, j, b, z, rfl, rfl, rfl, rfl, rfl, Ms, hs, Mt, ht, b0, b1, hz, hk, hm⟩ := addM_ok fw2 e
      exact .inl ⟨i, a, j, b, s, t, z, S, ad, dx, rfl, A0, Ms, hs, Mt, ht, b0, b1, hz, hk, hm, W.small, k⟩
end

theorem sort_uniq : ∀ {a b : List Int}, a.Perm b → a.Pairwise (· ≤ ·) → b.Pairwise (· ≤ ·) → a = b
  | [], b, p, _, _ => (List.nil_perm.mp p).symm
  | x :: a, [], p, _, _ => absurd p.length_eq (by simp)
  | x :: a, y :: b, p, ha, hb => by
    obtain ⟨h1, h2⟩ := List.pairwise_cons.mp ha
    obtain ⟨h3, h4⟩ := List.pairwise_cons.mp hb
    have e : x = y := by
      have m1 : x ∈ y :: b := p.mem_iff.mp List.mem_cons_self
      have m2 : y ∈ x :: a := p.mem_iff.mpr List.mem_cons_self
      rcases List.mem_cons.mp m1 with e | e
      · exact e
      · rcases List.mem_cons.mp m2 with e2 | e2
        · exact e2.symm
        · have := h3 x e
          have := h1 y e2
          omega
    subst e
    rw [sort_uniq ((List.perm_cons x).mp p) h2 h4]
theorem mem_qAdd {t u : Int} {l : List Int} : t ∈ qAdd u l ↔ t = u ∨ t ∈ l := by
  unfold qAdd
  split <;> rename_i h
  · exact ⟨.inr, fun z => z.elim (fun e => e ▸ h) id⟩
  · rw [List.mem_append, List.mem_singleton]
    exact ⟨fun z => z.symm, fun z => z.symm⟩
theorem qAdd_nodup {u : Int} {l : List Int} (h : l.Nodup) : (qAdd u l).Nodup := by
  unfold qAdd
  split <;> rename_i h2
  · exact h
  · exact List.nodup_append.mpr ⟨h, by simp, fun a ha b hb e => h2 (by rw [List.mem_singleton] at hb; rw [← hb, ← e]; exact ha)⟩
theorem mem_row {t : Int} : ∀ {l : List (Option Int)} {acc : List Int}, t ∈ rowThings acc l ↔ t ∈ acc ∨ ∃ n : Nat, l[n]? = some (some t)
  | [], acc => ⟨.inl, fun z => z.elim id fun ⟨n, h⟩ => by simp at h⟩
  | x :: l, acc => by
    have sh : (∃ n : Nat, (x :: l)[n]? = some (some t)) ↔ x = some t ∨ ∃ n : Nat, l[n]? = some (some t) := ⟨fun ⟨n, h⟩ => by
      cases n with
      | zero => exact .inl (by simpa using h)
      | succ n => exact .inr ⟨n, by simpa using h⟩, fun z => z.elim (fun e => ⟨0, by simp [e]⟩) fun ⟨n, h⟩ => ⟨n + 1, by simpa using h⟩⟩
    rw [sh]
    cases x with
    | none =>
      have ih := mem_row (t := t) (l := l) (acc := acc)
      show t ∈ rowThings acc l ↔ _
      rw [ih]
      simp
    | some u =>
      have ih := mem_row (t := t) (l := l) (acc := qAdd u acc)
      show t ∈ rowThings (qAdd u acc) l ↔ _
      rw [ih, mem_qAdd]
      constructor
      · rintro ((e | e) | e)
        · exact .inr (.inl (by rw [e]))
        · exact .inl e
        · exact .inr (.inr e)
      · rintro (e | e | e)
        · exact .inl (.inr e)
        · exact .inl (.inl (Option.some.inj e).symm)
        · exact .inr e
theorem mem_things {S : Sys} {t : Int} : ∀ {ps acc : List Int}, t ∈ thingsOf S acc ps ↔ t ∈ acc ∨ ∃ p ∈ ps, ∃ n : Nat, (S.tab p)[n]? = some (some t)
  | [], acc => ⟨.inl, fun z => z.elim id fun ⟨p, hp, _⟩ => absurd hp List.not_mem_nil⟩
  | q :: ps, acc => by
    have ih := mem_things (S := S) (t := t) (ps := ps) (acc := rowThings acc (S.tab q))
    show t ∈ thingsOf S (rowThings acc (S.tab q)) ps ↔ _
    rw [ih, mem_row]
    constructor
    · rintro ((e | e) | ⟨p, hp, e⟩)
      · exact .inl e
      · exact .inr ⟨q, List.mem_cons_self, e⟩
      · exact .inr ⟨p, List.mem_cons_of_mem _ hp, e⟩
    · rintro (e | ⟨p, hp, e⟩)
      · exact .inl (.inl e)
      · rcases List.mem_cons.mp hp with z | z
        · subst z
          exact .inl (.inr e)
        · exact .inr ⟨p, z, e⟩
theorem row_nodup : ∀ {l : List (Option Int)} {acc : List Int}, acc.Nodup → (rowThings acc l).Nodup
  | [], _, h => h
  | none :: l, _, h => row_nodup (l := l) h
  | some _ :: l, _, h => row_nodup (l := l) (qAdd_nodup h)
theorem things_nodup {S : Sys} : ∀ {ps acc : List Int}, acc.Nodup → (thingsOf S acc ps).Nodup
  | [], _, h => h
  | _ :: ps, _, h => things_nodup (ps := ps) (row_nodup h)
theorem things_len {S : Sys} : ∀ {ps acc : List Int}, (∀ p ∈ ps, (S.tab p).length ≤ 8) → (thingsOf S acc ps).length ≤ acc.length + 8 * ps.length
  | [], _, _ => Nat.le_refl _
  | p :: ps, acc, h => by
    have a := things_len (S := S) (ps := ps) (acc := rowThings acc (S.tab p)) fun q hq => h q (List.mem_cons_of_mem _ hq)
    have b := h p List.mem_cons_self
    have c := rowThings_len acc (S.tab p)
    show (thingsOf S (rowThings acc (S.tab p)) ps).length ≤ acc.length + 8 * (ps.length + 1)
    omega
/-- what a row of registrations() shows of the label l in the set s -/
def RgAt (S : Sys) (ys : List Int) (s : Int) (H : Hp) (v : V) (l : Int) : Prop := ∃ (T : Addr) (v1 v2 : V) (r1 r2 : Int × Nat), v = .ref T ∧ H T = some (.tup [v1, .int l, .int (S.reg s l).num, v2, .str (S.reg s l).word, .bl (S.reg s l).armed]) ∧
  (placesIn S s ys)[0]? = some r1 ∧ PlAt H v1 r1 ∧ (placesIn S (S.reg s l).src ys)[0]? = some r2 ∧ PlAt H v2 r2
theorem PlAt.keep {H H' : Hp} {v : V} {r : Int × Nat} (h : PlAt H v r) (s : ∀ b o, H b = some o → (∀ xs, o ≠ .tup xs) ∨ H' b = some o) : PlAt H' v r := by
  obtain ⟨T, h1, h2⟩ := h
  exact ⟨T, h1, (s _ _ h2).elim (fun z => absurd rfl (z _)) id⟩
theorem PlAt.upd {H : Hp} {v : V} {r : Int × Nat} {D : Addr} {o o' : HO} (h : PlAt H v r) (hD : H D = some o) (n : ∀ xs, o ≠ .tup xs) : PlAt (upd H D o') v r := h.keep fun b o2 e => by
  by_cases z : b = D
  · rw [z, hD] at e
    cases e
    exact .inl n
  · exact .inr (by rw [upd_ne z]; exact e)
theorem rgs_keep {S : Sys} {ys : List Int} {s : Int} {H H' : Hp} {vs : List V} {ls : List Int} (p : Paired (RgAt S ys s H) vs ls) (k : ∀ b o, H b = some o → (∀ xs, o ≠ .tup xs) ∨ H' b = some o) : Paired (RgAt S ys s H') vs ls := by
  induction p with
  | nil => exact .nil
  | cons r _ ih =>
    obtain ⟨T, v1, v2, r1, r2, h1, h2, h3, h4, h5, h6⟩ := r
    exact .cons ⟨T, v1, v2, r1, r2, h1, (k _ _ h2).elim (fun z => absurd rfl (z _)) id, h3, h4.keep k, h5, h6.keep k⟩ ih
theorem paired_snoc {α β : Type} {R : α → β → Prop} {xs : List α} {ys : List β} {x : α} {y : β} (p : Paired R xs ys) (h : R x y) : Paired R (xs ++ [x]) (ys ++ [y]) := by
  induction p with
  | nil => exact .cons h .nil
  | cons q _ ih => exact .cons q ih
section
variable {P : Program} {w : World} {K : PySem.W.Frag} {mg : Str → Option Value} {base : Heap} {C : Cs}
def spRegistrations (C : Cs) : Sp := fun vs H Q _ => OnSys C vs H [] fun S ad dx => ∃ s, S.sets = [s] ∧ S.procs.length ≤ 6 ∧ (∀ p ∈ S.procs, (S.tab p).length ≤ 8) ∧ (∃ p ∈ S.procs, ∃ n : Nat, (S.tab p)[n]? = some (some s)) ∧
  (S.ents s).length ≤ 1000 ∧ (∀ l ∈ S.ents s, ∃ p ∈ S.procs, ∃ n : Nat, (S.tab p)[n]? = some (some (S.reg s l).src)) ∧
  ∀ (ys : List Int) (H' : Hp) (r : Addr) (rs : List V), ys.Perm S.procs → ys.Pairwise (· ≤ ·) → Same H H' → H r = none → H' r = some (.lst rs) → Paired (RgAt S ys s H') rs (S.ents s) → Q (.ref r) H'
abbrev nRegs : List Str := ["self", "names", "thing", "label", "kept"]
theorem scRegs : FnScope nRegs ["self"] (defScope sRegistrations) := ⟨rfl, rfl, rfl, by decide +kernel, rfl, by decide +kernel, by decide +kernel⟩
end

theorem places_get {S : Sys} {t : Int} : ∀ {ps : List Int} {r : Int × Nat}, r ∈ placesIn S t ps → r.1 ∈ ps ∧ (S.tab r.1)[r.2]? = some (some t)
  | p :: ps, r, h => by
    rcases List.mem_append.mp (show r ∈ rowAt t p 0 (S.tab p) ++ placesIn S t ps from h) with z | z
    · have go : ∀ (l : List (Option Int)) (k : Nat), r ∈ rowAt t p k l → r.1 = p ∧ ∃ j, r.2 = k + j ∧ l[j]? = some (some t) := fun l => by
        induction l with
        | nil => exact fun k h => absurd h List.not_mem_nil
        | cons x l ih =>
          intro k h
          by_cases e : x = some t
          · have h : r ∈ (if x = some t then (p, k) :: rowAt t p (k + 1) l else rowAt t p (k + 1) l) := h
            rw [if_pos e] at h
            rcases List.mem_cons.mp h with z | z
            · rw [z]
              exact ⟨rfl, 0, rfl, by rw [e]; rfl⟩
            · obtain ⟨a, j, b, c⟩ := ih (k + 1) z
              exact ⟨a, j + 1, by omega, c⟩
          · have h : r ∈ (if x = some t then (p, k) :: rowAt t p (k + 1) l else rowAt t p (k + 1) l) := h
            rw [if_neg e] at h
            obtain ⟨a, j, b, c⟩ := ih (k + 1) h
            exact ⟨a, j + 1, by omega, c⟩
      obtain ⟨a, j, b, c⟩ := go _ 0 z
      rw [a, b, Nat.zero_add]
      exact ⟨List.mem_cons_self, c⟩
    · obtain ⟨a, b⟩ := places_get z
      exact ⟨List.mem_cons_of_mem _ a, b⟩
theorem two_eqv (a b c d : Int) : PyData.eqv (.tuple [.int a, .int b]) (.tuple [.int c, .int d]) = (decide (a = c) && decide (b = d)) := by
  simp only [PyData.eqv, PyData.eqvAll, Bool.and_true]
  rfl
theorem two_shaped (a b : Int) : SeqAt.shaped (.tuple [.int a, .int b]) = true := by
  unfold SeqAt.shaped
  rw [Bool.and_eq_true]
  exact ⟨by simp [PyData.canLay0, PyData.canLayAll0], decide_eq_true (by simp [PyData.depth, PyData.depthAll])⟩
section
variable {P : Program} {w : World} {K : PySem.W.Frag} {mg : Str → Option Value} {base : Heap} {C : Cs}
structure ReachTx (mg : Str → Option Value) : Prop where
  isin : mg "isinstance" = none
  tuple : mg "tuple" = none
  len : mg "len" = none
  any : mg "any" = none
/-- the name of the set s, by the tuple at Tn -/
def IsName (S : Sys) (s : Int) (H : Hp) (Tn : Addr) : Prop := ∃ (ys : List Int) (r : Int × Nat), ys.Perm S.procs ∧ ys.Pairwise (· ≤ ·) ∧ (placesIn S s ys)[0]? = some r ∧ H Tn = some (.tup [.int r.1, .int (r.2 : Int)])
structure NmOk (S : Sys) (s : Int) : Prop where
  mem : s ∈ S.sets
  pl : S.procs.length ≤ 6
  tl : ∀ p ∈ S.procs, (S.tab p).length ≤ 8
  tn : ∀ p ∈ S.procs, (S.tab p).length = S.N.toNat
def spSetNamed (C : Cs) : Sp := fun vs H Q _ => ∃ (Tn : Addr) (s : Int), OnSys C vs H [.ref Tn] fun S ad dx => NmOk S s ∧ IsName S s H Tn ∧ ∀ H', Same H H' → Q (.int s) H'
abbrev nSetNamed : List Str := ["system", "set_name", "process", "number", "thing"]
theorem scSetNamed : FnScope nSetNamed ["system", "set_name"] (defScope sSetNamed) := ⟨rfl, rfl, rfl, by decide +kernel, rfl, by decide +kernel, by decide +kernel⟩
theorem okSetNamed {f fC fN fNa : Addr} {fd fdC fdN fdNa : FuncData} (F : Fun K "set_named" "set_named" sSetNamed f fd) (X : ReachTx mg) (T : ClsF K C.S sysF)
    (GC : MO P w K mg base 2 C.S "__contains__" ["self", "x"] (spContains C) fC fdC) (GN : MO P w K mg base 3 C.S "is_table_number" ["self", "number"] (spIsTabNum C) fN fdN) (GNa : MO P w K mg base 2 C.S "name_of" ["self", "thing"] (spNameOf C) fNa fdNa) :
    FnOk P w K mg base CX0 4 f fd ["system", "set_name"] (spSetNamed C) := by
  refine F.ok scSetNamed (fun vs H Q E h => ?_) (fun cdv A outer s H vs Q E hr h => ?_)
  · obtain ⟨_, _, _, _, _, rfl, _⟩ := h
    rfl
  · obtain ⟨Tn, t, S, ad, dx, rfl, A0, N, nm, k⟩ := h
    have hu := hr.units
    have hu1 := hu_of hr
    have r2 : Room 2 _ := hr.mono (by decide)
    refine ⟨_, pss_cons (ps_if (PW.pt (pw_or (pt_not (pt_val (pe_callB call_isi (by rfl) X.isin PyProof.Rows.boot_isinstance (pa_cons (pv 1) (pa_cons (pe_bltn (v := .ty "tuple") (by rfl) X.tuple (by decide +kernel) rfl) pa_nil))))) (pw_or1 (pt_cmpR op_ne (pe_callB cLenQ (by rfl) X.len PySem.boot_len (pa_cons (pv 1) pa_nil)) pe_int (nomark _))))) (pss_one ps_never) pss_nil)
      (pss_cons (ps_asg (pv 1) (pg_tup rfl (pgs_cons (pg_name (i := 2) scSetNamed.nd rfl (Or.inl rfl)) (pgs_cons (pg_name (i := 3) scSetNamed.nd rfl (Or.inl rfl)) pgs_nil))))
      (pss_cons (ps_if (PW.pt (pw_or (pt_cmpR (op_ownNotIn GC.g r2 GC.m.at_ GC.m.fn GC.b pass0) (pv 2) (pv 0) (by rfl)) (pw_or1 (pt_not (pt_val (pe_meth (pv 0) T.cl GN.m GN.g hr GN.b .nil pass0 (pa_cons (pv 3) pa_nil))))))) (pss_one ps_never) pss_nil)
      (pss_cons (ps_set (i := 4) scSetNamed.nd rfl (Or.inl rfl) (pe_ix ix_list (pe_dget hu1 (pe_fld (pv 0) rfl) (pv 2) (fun _ _ => rfl)) (pv 3) (fun _ _ => rfl)))
      (pss_cons (ps_if (PW.pt (pw_or (pt_cmp (pc_dnotin hu1 (pv 4) (pe_fld (pv 0) rfl)) rfl) (pw_or1 (pt_cmpR (op_neD hu) (pe_meth (pv 0) T.cl GNa.m GNa.g r2 GNa.b .nil pass0 (pa_cons (pv 4) pa_nil)) (pv 1) (nomark _))))) (pss_one ps_never) pss_nil)
      (pss_one (ps_ret (pv 4))))))), ?_⟩
    have hb := A0.at_ .box trivial
    obtain ⟨ys, ⟨p, n⟩, pm, pw, hr0, hT⟩ := nm
    obtain ⟨hp0, hn⟩ := places_get (List.mem_of_getElem? hr0)
    have hp : p ∈ S.procs := pm.mem_iff.mp hp0
    have hn : (S.tab p)[n]? = some (some t) := hn
    have hnl := (List.getElem?_eq_some_iff.mp hn).1
    have tn := N.tn p hp
    walk_at "wn"
    refine ⟨_, _, _, _, true, rfl, .ty "tuple", .base (.tup hT), kit_ty (by decide +kernel), ?_⟩
    walk_at "wn"
    refine ⟨Tn, _, rfl, .inr (SqT.of hT), ?_⟩
    walk_at "wn"
    refine ⟨Tn, _, rfl, SqT.of hT, rfl, _, _, rfl, ?_⟩
    walk_at "wn"
    refine ⟨_, _, rfl, ?_⟩
    walk_at "wn"
    refine ⟨rfl, ?_⟩
    walk_at "wn"
    refine ⟨ad .box, dx .box, _, rfl, hb, p, S, ad, dx, rfl, A0, _, rfl, ?_⟩
    rw [decide_eq_true hp]
    walk_at "wn"
    refine ⟨_, rfl, ad .box, dx .box, _, rfl, hb, rfl, ?_⟩
    walk_at "wn"
    refine ⟨(n : Int), S, ad, dx, rfl, A0, ?_⟩
    dsimp only
    rw [decide_eq_true (show (0 : Int) ≤ (n : Int) by omega), decide_eq_true (show (n : Int) ≤ S.N - 1 by omega)]
    walk_at "wn"
    have hv : valV (entKV S.procs fun p => ad (.tab p)) (Sum.inl p) = some (.ref (ad (.tab p))) := by rw [ent_val, if_pos hp]
    refine ⟨_, rfl, ad .box, C.S, dx .box, _, _, rfl, hb, T.cl, T.no _ (by decide), rfl, ?_⟩
    refine ⟨_, rfl, ad .tabD, _, rfl, hv ▸ DGet.k (k := Sum.inl p) (A0.at_ .tabD trivial), ?_⟩
    walk_at "wn"
    refine ⟨ad (.tab p), _, (n : Int), _, rfl, rfl, SqL.of (A0.at_ (.tab p) hp), atI_nat (by rw [List.getElem?_map, hn]; rfl), ?_⟩
    walk_at "wn"
    refine ⟨_, rfl, _, rfl, ad .box, C.S, dx .box, _, _, rfl, hb, T.cl, T.no _ (by decide), rfl, ?_⟩
    refine ⟨ad .setD, _, rfl, DGet.k (k := Sum.inl t) (A0.at_ .setD trivial), ?_⟩
    rw [ent_val, if_pos N.mem]
    refine ⟨_, rfl, ?_⟩
    rw [if_neg (show ¬ (!(some (V.ref (ad (Cell.ws t)))).isSome) = true by simp)]
    walk_at "wn"
    refine ⟨_, rfl, ad .box, dx .box, _, rfl, hb, rfl, ?_⟩
    walk_at "wn"
    refine ⟨t, S, ad, dx, rfl, A0.tabAt, N.pl, N.tl, ⟨p, hp, n, hn⟩, fun ys2 H2 v r2 pm2 pw2 s2 e2 pl => ?_⟩
    obtain rfl := sort_uniq (pm2.trans pm.symm) pw2 pw
    rw [hr0] at e2
    cases e2
    obtain ⟨T2, rfl, h2⟩ := pl
    walk_at "wn"
    refine ⟨_, _, .tup (SqT.of h2) (.cons (.int _) (.cons (.int _) .nil)), .tup (SqT.of (s2 _ _ hT)) (.cons (.int _) (.cons (.int _) .nil)), two_shaped _ _, two_shaped _ _, ?_⟩
    rw [two_eqv]
    simp only [decide_true, Bool.and_self]
    refine ⟨false, rfl, iteF ?_⟩
    walk_at "wn"
    exact k _ s2
def spRegNamed (C : Cs) : Sp := fun vs H Q _ => ∃ (Tn : Addr) (s l : Int), OnSys C vs H [.ref Tn, .int l] fun S ad dx => NmOk S s ∧ IsName S s H Tn ∧ l ∈ S.ents s ∧ ∀ H' T, Same H H' → H' T = some (.tup [.int s, .ref (ad (.reg s l))]) → Q (.ref T) H'
abbrev nRegNamed : List Str := ["system", "set_name", "label", "holder"]
theorem scRegNamed : FnScope nRegNamed ["system", "set_name", "label"] (defScope sRegNamed) := ⟨rfl, rfl, rfl, by decide +kernel, rfl, by decide +kernel, by decide +kernel⟩
theorem okRegNamed {f fS fI : Addr} {fd fdS fdI : FuncData} (F : Fun K "registration_named" "registration_named" sRegNamed f fd) (T : ClsF K C.S sysF) (TW : ClsF K C.W wsF)
    (GS : DO P w K mg base 4 "set_named" ["system", "set_name"] (spSetNamed C) fS fdS) (GI : DO P w K mg base 1 "is_integer" ["x"] spIsInteger fI fdI) :
    FnOk P w K mg base CX0 5 f fd ["system", "set_name", "label"] (spRegNamed C) := by
  refine F.ok scRegNamed (fun vs H Q E h => ?_) (fun cdv A outer s H vs Q E hr h => ?_)
  · obtain ⟨_, _, _, _, _, _, rfl, _⟩ := h
    rfl
  · obtain ⟨Tn, t, l, S, ad, dx, rfl, A0, N, nm, hl, k⟩ := h
    have hu1 := hu_of hr
    have r1 : Room 1 _ := hr.mono (by decide)
    refine ⟨_, pss_cons (ps_set (i := 3) scRegNamed.nd rfl (Or.inl rfl) (pe_call GS.g hr (by rfl) GS.m GS.k GS.b .nil pass0 (pa_cons (pv 0) (pa_cons (pv 1) pa_nil))))
      (pss_cons (ps_if (PW.pt (pw_or (pt_cmpR oIsN (pv 3) pe_non (nomark _)) (pw_or (pt_not (pt_val (pe_call GI.g r1 (by rfl) GI.m GI.k GI.b .nil pass0 (pa_cons (pv 2) pa_nil)))) (pw_or1 (pt_cmp (pc_dnotin hu1 (pv 2) (pe_fld (pe_dget hu1 (pe_fld (pv 0) rfl) (pv 3) (fun _ _ => rfl)) rfl)) rfl))))) (pss_one ps_never) pss_nil)
      (pss_one (ps_ret (pe_tup (pa_cons (pv 3) (pa_cons (pe_dget hu1 (pe_fld (pe_dget hu1 (pe_fld (pv 0) rfl) (pv 3) (fun _ _ => rfl)) rfl) (pv 2) (fun _ _ => rfl)) pa_nil)))))), ?_⟩
    have hb := A0.at_ .box trivial
    have hs := N.mem
    have hw := A0.at_ (.ws t) hs
    have hD : H (ad .setD) = some (.dK (entKV S.sets fun s => ad (.ws s))) := A0.at_ .setD trivial
    have hv : valV (entKV S.sets fun s => ad (.ws s)) (Sum.inl t) = some (.ref (ad (.ws t))) := by rw [ent_val, if_pos hs]
    have he : H (ad (.ent t)) = some (.dK (entKV (S.ents t) fun l => ad (.reg t l))) := A0.at_ (.ent t) hs
    have hv2 : valV (entKV (S.ents t) fun l => ad (.reg t l)) (Sum.inl l) = some (.ref (ad (.reg t l))) := by rw [ent_val, if_pos hl]
    walk_at "wn"
    refine ⟨Tn, t, S, ad, dx, rfl, A0, N, nm, fun H1 s1 => ?_⟩
    have A1 := A0.same s1
    walk_at "wn"
    rw [decide_eq_false (show ¬ V.int t = V.non from fun z => nomatch z)]
    walk_at "wn"
    refine ⟨l, rfl, ?_⟩
    walk_at "wn"
    refine ⟨_, rfl, _, rfl, ad .box, C.S, dx .box, _, _, rfl, s1 _ _ hb, T.cl, T.no _ (by decide), rfl, ?_⟩
    refine ⟨_, rfl, ad .setD, _, rfl, hv ▸ DGet.k (k := Sum.inl t) (s1 _ _ hD), ?_⟩
    refine ⟨ad (.ws t), C.W, dx (.ws t), _, _, rfl, s1 _ _ hw, TW.cl, TW.no _ (by decide), rfl, ?_⟩
    refine ⟨ad (.ent t), _, rfl, DGet.k (k := Sum.inl l) (s1 _ _ he), ?_⟩
    rw [ent_val, if_pos hl]
    refine ⟨_, rfl, ?_⟩
    show if false = true then _ else _
    refine iteF ?_
    walk_at "wn"
    refine ⟨_, rfl, ad .box, C.S, dx .box, _, _, rfl, s1 _ _ hb, T.cl, T.no _ (by decide), rfl, ?_⟩
    refine ⟨_, rfl, ad .setD, _, rfl, hv ▸ DGet.k (k := Sum.inl t) (s1 _ _ hD), ?_⟩
    refine ⟨ad (.ws t), C.W, dx (.ws t), _, _, rfl, s1 _ _ hw, TW.cl, TW.no _ (by decide), rfl, ?_⟩
    refine ⟨_, rfl, ad (.ent t), _, rfl, hv2 ▸ DGet.k (k := Sum.inl l) (s1 _ _ he), ?_⟩
    walk_at "wn"
    exact ⟨by show 2 ≤ sizeLine; decide, fun T1 hT1 => k _ T1 (s1.trans (Same.new' hT1)) upd_same⟩
end

section
variable {P : Program} {w : World} {K : PySem.W.Frag} {mg : Str → Option Value} {base : Heap} {C : Cs}
/-- any([e for table in system.tables.values()]) -/
theorem anyTabs {te ts : TE} {σ : L2.St} {i : Nat} {H : Hp} {Q : VK} {S : Sys} {ad dx : Cell → Addr} (T : ClsF K C.S sysF) (A : At C H S ad dx) (f : Int → Bool) (hp : S.procs.length ≤ 1000)
    (hs : ∀ H1 Q1, Q1 (.ref (ad .box)) H1 → ts σ H1 Q1)
    (h : ∀ q ∈ S.procs, ∀ H1, (∀ b o, b ≠ ad .tabD → H b = some o → H1 b = some o) → ∀ Q1 : VK, Q1 (.bl (f q)) H1 → te ((wipe σ [i]).set i (some (.ref (ad (.tab q))))) H1 Q1)
    (k : ∀ H', Same H H' → Q (.bl (S.procs.any f)) H') : tCB (rAny K) (tCons (tLockE (tLc (iVals (tFld K ts "tables")) (gName i) tYes te [i])) tNil) σ H Q := by
  have hb := A.at_ .box trivial
  have nbT : ad .box ≠ ad .tabD := A.ne (c := .box) (c' := .tabD) trivial trivial (by intro z; cases z)
  have hT : H (ad .tabD) = some (.dK (entKV S.procs fun p => ad (.tab p))) := A.at_ .tabD trivial
  refine g_cb (g_cons ?_)
  refine ⟨ad .tabD, _, hT, trivial, fun od => ?_⟩
  refine hs _ _ ⟨ad .box, C.S, dx .box, _, _, rfl, by rw [upd_ne nbT]; exact hb, T.cl, T.no _ (by decide), rfl, ?_⟩
  refine ⟨ad .tabD, od, _, rfl, upd_same, fun D hD => ?_⟩
  have nDT : D ≠ ad .tabD := fun z => by rw [z, upd_same] at hD; cases hD
  have hD0 : H D = none := by rw [upd_ne nDT] at hD; exact hD
  refine lc_it walk_values (fun i H' => Same (upd H (ad .tabD) (.frz od (.dK (entKV S.procs fun p => ad (.tab p))))) H' ∧ H' D = some (.lst (((S.procs.take i).map f).map V.bl))) ⟨Same.new' hD, upd_same⟩ (fun i H' _ h => h.1 _ _ upd_same) ?_ (fun H' h => ?_)
  · rintro i x H2 H3 hi ⟨sm, hd⟩ ⟨rfl, kx, ex⟩
    have hi' : i < S.procs.length := by unfold entKV at hi; rwa [List.length_map] at hi
    have e2 : S.procs[i]? = some S.procs[i] := List.getElem?_eq_getElem hi'
    have hs : S.procs[i] ∈ S.procs := List.getElem_mem hi'
    have et : S.procs.take (i + 1) = S.procs.take i ++ [S.procs[i]] := by rw [List.take_add_one, e2]; rfl
    unfold entKV at ex
    rw [List.getElem?_map, e2] at ex
    cases ex
    rw [et]
    generalize S.procs[i] = q at e2 hs
    refine ⟨by simp [wipe, List.set_set], ?_⟩
    show tYes _ _ _
    refine g_yes ?_
    show if true = true then _ else _
    refine iteT ?_
    refine h q hs H3 (fun b o nb e => sm _ _ (by rw [upd_ne nb]; exact e)) _ ?_
    refine ⟨_, hd, by rw [List.length_map, List.length_map, List.length_take, sizeLine_eq]; omega, fun b o z => ?_, ?_⟩
    · rw [upd_ne (fun y => by rw [y, hD] at z; cases z)]
      exact sm b o z
    · rw [upd_same, List.map_append, List.map_append]
      rfl
  · obtain ⟨sm, hd⟩ := h
    have ee : S.procs.take (entKV S.procs fun p => ad (.tab p)).length = S.procs := by unfold entKV; rw [List.length_map, List.take_length]
    rw [ee] at hd
    refine ⟨sm _ _ upd_same, ?_⟩
    have sm2 : Same H (upd H' (ad .tabD) (.dK (entKV S.procs fun p => ad (.tab p)))) := fun b o z => by
      by_cases hb2 : b = ad .tabD
      · rw [hb2, upd_same, ← hT, ← hb2, z]
      · rw [upd_ne hb2]
        exact sm _ _ (by rw [upd_ne hb2]; exact z)
    show tNil _ _ _
    refine g_nil ?_
    refine ⟨D, _, rfl, SqL.of (by rw [upd_ne nDT]; exact hd), ?_⟩
    have hany : ((S.procs.map f).any id) = S.procs.any f := by rw [List.any_map]; rfl
    rw [hany]
    exact k _ sm2
/-! are_held_together -/
def together (S : Sys) (t u : Int) : Bool := S.procs.any fun q => decide (some t ∈ S.tab q) && decide (some u ∈ S.tab q)
def spHeld (C : Cs) : Sp := fun vs H Q _ => ∃ t u : Int, OnSys C vs H [.int t, .int u] fun S _ _ => S.procs.length ≤ 6 ∧ ∀ H', Same H H' → Q (.bl (together S t u)) H'
abbrev nHeld : List Str := ["system", "thing", "other", "table"]
theorem scHeld : FnScope nHeld ["system", "thing", "other"] (defScope sHeldTogether) := ⟨rfl, rfl, rfl, by decide +kernel, rfl, by decide +kernel, by decide +kernel⟩
theorem okHeld {f : Addr} {fd : FuncData} (F : Fun K "are_held_together" "are_held_together" sHeldTogether f fd) (any : mg "any" = none) (T : ClsF K C.S sysF) : FnOk P w K mg base CX0 1 f fd ["system", "thing", "other"] (spHeld C) := by
  refine F.ok scHeld (fun vs H Q E h => ?_) (fun cdv A outer s H vs Q E hr h => ?_)
  · obtain ⟨_, _, _, _, _, rfl, _⟩ := h
    rfl
  · obtain ⟨t, u, S, ad, dx, rfl, A0, hp, k⟩ := h
    refine ⟨_, pss_one (ps_ret (pe_callB (cr_any rfl) (by rfl) any (by decide +kernel) (pa_cons (pe_lock (pe_lc (own := [("table", 3)]) (g := gName 3) (tt := tYes) (te := tAndV (tOp (rIn K false) (tVar 1) (tVar 3)) (tOp (rIn K false) (tVar 2) (tVar 3))) rfl scHeld.nd (pi_values (pe_fld (pv 0) rfl)) (blkOk_by (N := nHeld) (sc := defScope sHeldTogether) (by decide +kernel)) (fun _ _ _ _ _ => pg_name (i := 3) scHeld.nd rfl (Or.inl rfl)) (fun _ _ _ _ _ => pts_nil) (fun _ _ _ _ _ => pe_and (pe_cmpR op_in_seq (pv 1) (pv 3) (by rfl)) (pe_one (pe_cmpR op_in_seq (pv 2) (pv 3) (by rfl)))))) pa_nil))), ?_⟩
    refine g_ret ?_
    refine anyTabs T A0 (fun q => decide (some t ∈ S.tab q) && decide (some u ∈ S.tab q)) (by omega) (fun H1 Q1 q => ⟨_, rfl, q⟩) (fun q hq H1 kp Q1 q1 => ?_) k
    have f1 : H1 (ad (.tab q)) = some (.lst ((S.tab q).map optV)) := kp _ _ (A0.ne (c := .tab q) (c' := .tabD) hq trivial (by intro z; cases z)) (A0.at_ (.tab q) hq)
    refine ⟨_, rfl, _, rfl, ad (.tab q), _, rfl, .inl (SqL.of f1), rfl, flat_opts _, ?_⟩
    refine ⟨_, rfl, ?_⟩
    show if inV (.int t) ((S.tab q).map optV) = true then _ else _
    rw [inV_opt]
    by_cases h1 : some t ∈ S.tab q
    · rw [decide_eq_true h1]
      refine iteT ?_
      refine ⟨_, rfl, _, rfl, ad (.tab q), _, rfl, .inl (SqL.of f1), rfl, flat_opts _, ?_⟩
      show Q1 (.bl (inV (.int u) ((S.tab q).map optV))) H1
      rw [inV_opt]
      rw [decide_eq_true h1, Bool.true_and] at q1
      exact q1
    · rw [decide_eq_false h1]
      refine iteF ?_
      rw [decide_eq_false h1, Bool.false_and] at q1
      exact q1
/-! is_reached, is_sealed -/
def reached (S : Sys) (s l : Int) : Bool := S.procs.any fun q => decide (some s ∈ S.tab q) && decide ((S.tab q)[(S.reg s l).num.toNat]? = some (some (S.reg s l).src))
structure RgOk (S : Sys) (s l : Int) : Prop where
  nm : NmOk S s
  lm : l ∈ S.ents s
  lo : 0 ≤ (S.reg s l).num
  hi : ∀ q ∈ S.procs, (S.reg s l).num.toNat < (S.tab q).length
def spIsReached (C : Cs) : Sp := fun vs H Q _ => ∃ (Tn : Addr) (s l : Int), OnSys C vs H [.ref Tn, .int l] fun S ad dx => RgOk S s l ∧ IsName S s H Tn ∧ ∀ H', Same H H' → Q (.bl (reached S s l)) H'
abbrev nReached : List Str := ["system", "set_name", "label", "holder", "kept", "table"]
theorem scReached : FnScope nReached ["system", "set_name", "label"] (defScope sIsReached) := ⟨rfl, rfl, rfl, by decide +kernel, rfl, by decide +kernel, by decide +kernel⟩
theorem okIsReached {f fR : Addr} {fd fdR : FuncData} (F : Fun K "is_reached" "is_reached" sIsReached f fd) (any : mg "any" = none) (T : ClsF K C.S sysF) (TR : ClsF K C.R regF)
    (GR : DO P w K mg base 5 "registration_named" ["system", "set_name", "label"] (spRegNamed C) fR fdR) : FnOk P w K mg base CX0 6 f fd ["system", "set_name", "label"] (spIsReached C) := by
  refine F.ok scReached (fun vs H Q E h => ?_) (fun cdv A outer s H vs Q E hr h => ?_)
  · obtain ⟨_, _, _, _, _, _, rfl, _⟩ := h
    rfl
  · obtain ⟨Tn, t, l, S, ad, dx, rfl, A0, R, nm, k⟩ := h
    refine ⟨_, pss_cons (ps_asg (pe_call GR.g hr (by rfl) GR.m GR.k GR.b .nil pass0 (pa_cons (pv 0) (pa_cons (pv 1) (pa_cons (pv 2) pa_nil)))) (pg_tup rfl (pgs_cons (pg_name (i := 3) scReached.nd rfl (Or.inr rfl)) (pgs_cons (pg_name (i := 4) scReached.nd rfl (Or.inr rfl)) pgs_nil))))
      (pss_one (ps_ret (pe_callB (cr_any rfl) (by rfl) any (by decide +kernel) (pa_cons (pe_lock (pe_lc (own := [("table", 5)]) (g := gName 5) (tt := tYes) (te := tAndV (tOp (rIn K false) (tVar 3) (tVar 5)) (tOp rEq (tOp (rIxL K) (tVar 5) (tFld K (tVar 4) "number")) (tFld K (tVar 4) "source"))) rfl scReached.nd (pi_values (pe_fld (pv 0) rfl)) (blkOk_by (N := nReached) (sc := defScope sIsReached) (by decide +kernel)) (fun _ _ _ _ _ => pg_name (i := 5) scReached.nd rfl (Or.inl rfl)) (fun _ _ _ _ _ => pts_nil)
        (fun _ _ _ _ _ => pe_and (pe_cmpR op_in_seq (pv 3) (pv 5) (by rfl)) (pe_one (pe_cmpR op_eq (pe_ix ix_list (pv 5) (pe_fld (pv 4) rfl) (fun _ _ => rfl)) (pe_fld (pv 4) rfl) (nomark _)))))) pa_nil)))), ?_⟩
    walk_at "wn"
    refine ⟨Tn, t, l, S, ad, dx, rfl, A0, R.nm, nm, R.lm, fun H1 T1 s1 h1 => ?_⟩
    have A1 := A0.same s1
    obtain ⟨m, em⟩ := Int.eq_ofNat_of_zero_le R.lo
    walk_at "wn"
    refine ⟨T1, _, rfl, SqT.of h1, rfl, _, _, rfl, ?_⟩
    walk_at "wn"
    refine ⟨_, _, rfl, ?_⟩
    walk_at "wn"
    refine ⟨rfl, ?_⟩
    dsimp only
    refine g_ret ?_
    refine anyTabs T A1 (fun q => decide (some t ∈ S.tab q) && decide ((S.tab q)[(S.reg t l).num.toNat]? = some (some (S.reg t l).src))) (by have := R.nm.pl; omega) (fun H1 Q1 q => ⟨_, rfl, q⟩) (fun q hq H2 kp Q1 q1 => ?_) (fun H' s' => k H' (s1.trans s'))
    have f1 : H2 (ad (.tab q)) = some (.lst ((S.tab q).map optV)) := kp _ _ (A1.ne (c := .tab q) (c' := .tabD) hq trivial (by intro z; cases z)) (A1.at_ (.tab q) hq)
    have f2 : H2 (ad (.reg t l)) = some (regO C.R (dx (.reg t l)) (S.reg t l).num (S.reg t l).src (S.reg t l).word (S.reg t l).armed) := kp _ _ (A1.ne (c := .reg t l) (c' := .tabD) ⟨R.nm.mem, R.lm⟩ trivial (by intro z; cases z)) (A1.at_ (.reg t l) ⟨R.nm.mem, R.lm⟩)
    refine ⟨_, rfl, _, rfl, ad (.tab q), _, rfl, .inl (SqL.of f1), rfl, flat_opts _, ?_⟩
    refine ⟨_, rfl, ?_⟩
    show if inV (.int t) ((S.tab q).map optV) = true then _ else _
    rw [inV_opt]
    by_cases h1 : some t ∈ S.tab q
    · rw [decide_eq_true h1]
      refine iteT ?_
      rw [decide_eq_true h1, Bool.true_and] at q1
      have hml := R.hi q hq
      rw [em, Int.toNat_natCast] at q1 hml
      have ex : (S.tab q)[m]? = some (S.tab q)[m] := List.getElem?_eq_getElem hml
      refine ⟨_, rfl, _, rfl, ad (.reg t l), C.R, dx (.reg t l), _, _, rfl, f2, TR.cl, TR.no _ (by decide), rfl, ?_⟩
      refine ⟨ad (.tab q), _, (m : Int), optV (S.tab q)[m], rfl, by rw [em], SqL.of f1, atI_nat (by rw [List.getElem?_map, ex]; rfl), ?_⟩
      refine ⟨_, rfl, ad (.reg t l), C.R, dx (.reg t l), _, _, rfl, f2, TR.cl, TR.no _ (by decide), rfl, ?_⟩
      generalize (S.tab q)[m] = y at ex
      rw [ex] at q1
      cases y with
      | none =>
        refine ⟨rfl, ?_⟩
        rw [decide_eq_false (fun z : optV none = V.int _ => by cases z)]
        rw [decide_eq_false (fun z : (some none : Option (Option Int)) = some (some _) => by cases z)] at q1
        exact q1
      | some y =>
        refine ⟨rfl, ?_⟩
        by_cases hy : y = (S.reg t l).src
        · rw [decide_eq_true (show optV (some y) = V.int (S.reg t l).src by rw [hy]; rfl)]
          rw [decide_eq_true (by rw [hy])] at q1
          exact q1
        · rw [decide_eq_false (fun z : optV (some y) = V.int (S.reg t l).src => hy (V.int.inj z))]
          rw [decide_eq_false (fun z => hy (Option.some.inj (Option.some.inj z)))] at q1
          exact q1
    · rw [decide_eq_false h1]
      refine iteF ?_
      rw [decide_eq_false h1, Bool.false_and] at q1
      exact q1
def spIsSealed (C : Cs) : Sp := fun vs H Q _ => ∃ (Tn : Addr) (s l : Int), OnSys C vs H [.ref Tn, .int l] fun S ad dx => RgOk S s l ∧ IsName S s H Tn ∧ ∀ H', Same H H' → Q (.bl (!together S s (S.reg s l).src)) H'
abbrev nSealed : List Str := ["system", "set_name", "label", "holder", "kept"]
theorem scSealed : FnScope nSealed ["system", "set_name", "label"] (defScope sIsSealed) := ⟨rfl, rfl, rfl, by decide +kernel, rfl, by decide +kernel, by decide +kernel⟩
theorem okIsSealed {f fR fH : Addr} {fd fdR fdH : FuncData} (F : Fun K "is_sealed" "is_sealed" sIsSealed f fd) (T : ClsF K C.S sysF) (TR : ClsF K C.R regF)
    (GR : DO P w K mg base 5 "registration_named" ["system", "set_name", "label"] (spRegNamed C) fR fdR) (GH : DO P w K mg base 1 "are_held_together" ["system", "thing", "other"] (spHeld C) fH fdH) : FnOk P w K mg base CX0 6 f fd ["system", "set_name", "label"] (spIsSealed C) := by
  refine F.ok scSealed (fun vs H Q E h => ?_) (fun cdv A outer s H vs Q E hr h => ?_)
  · obtain ⟨_, _, _, _, _, _, rfl, _⟩ := h
    rfl
  · obtain ⟨Tn, t, l, S, ad, dx, rfl, A0, R, nm, k⟩ := h
    have r1 : Room 1 _ := hr.mono (by decide)
    refine ⟨_, pss_cons (ps_asg (pe_call GR.g hr (by rfl) GR.m GR.k GR.b .nil pass0 (pa_cons (pv 0) (pa_cons (pv 1) (pa_cons (pv 2) pa_nil)))) (pg_tup rfl (pgs_cons (pg_name (i := 3) scSealed.nd rfl (Or.inl rfl)) (pgs_cons (pg_name (i := 4) scSealed.nd rfl (Or.inl rfl)) pgs_nil))))
      (pss_one (ps_ret (pe_not (pe_call GH.g r1 (by rfl) GH.m GH.k GH.b .nil pass0 (pa_cons (pv 0) (pa_cons (pv 3) (pa_cons (pe_fld (pv 4) rfl) pa_nil))))))), ?_⟩
    walk_at "wn"
    refine ⟨Tn, t, l, S, ad, dx, rfl, A0, R.nm, nm, R.lm, fun H1 T1 s1 h1 => ?_⟩
    have A1 := A0.same s1
    walk_at "wn"
    refine ⟨T1, _, rfl, SqT.of h1, rfl, _, _, rfl, ?_⟩
    walk_at "wn"
    refine ⟨_, _, rfl, ?_⟩
    walk_at "wn"
    refine ⟨rfl, ?_⟩
    walk_at "wn"
    refine ⟨_, rfl, ad (.reg t l), C.R, dx (.reg t l), _, _, rfl, A1.at_ (.reg t l) ⟨R.nm.mem, R.lm⟩, TR.cl, TR.no _ (by decide), rfl, ?_⟩
    walk_at "wn"
    refine ⟨t, (S.reg t l).src, S, ad, dx, rfl, A1, R.nm.pl, fun H2 s2 => ?_⟩
    walk_at "wn"
    exact k H2 (s1.trans s2)
end

/-! several dicts locked at once -/
def tLocksE : Nat → TE → TE
  | 0, t => t
  | n + 1, t => tLockE (tLocksE n t)
theorem pe_locks {X : Cx} {e : Expr} {t : TE} (h : PE X e t) : ∀ n, PE X e (tLocksE n t)
  | 0 => h
  | n + 1 => pe_lock (pe_locks h n)
def lockH (H : Hp) (ds : List Addr) (us : Addr → HO) (od : Addr → Obj) : Hp := fun b => if b ∈ ds then some (.frz (od b) (us b)) else H b
def unlockH (H : Hp) (ds : List Addr) (us : Addr → HO) : Hp := fun b => if b ∈ ds then some (us b) else H b
theorem locks_read {t : TE} {σ : L2.St} {us : Addr → HO} : ∀ {ds : List Addr} {H : Hp} {Q : VK}, ds.Nodup → (∀ d ∈ ds, H d = some (us d) ∧ Mut (some (us d))) →
    (∀ od : Addr → Obj, t σ (lockH H ds us od) fun v H' => (∀ d ∈ ds, H' d = some (.frz (od d) (us d))) ∧ Q v (unlockH H' ds us)) → tLocksE ds.length t σ H Q
  | [], H, Q, _, _, h => by
    have e := h fun _ => default
    have e1 : lockH H [] us (fun _ => default) = H := funext fun b => if_neg List.not_mem_nil
    rw [e1] at e
    have e2 : (fun (v : V) (H' : Hp) => (∀ d ∈ ([] : List Addr), H' d = some (.frz default (us d))) ∧ Q v (unlockH H' [] us)) = Q := funext fun v => funext fun H' => by
      have e3 : unlockH H' [] us = H' := funext fun b => if_neg List.not_mem_nil
      rw [e3]
      exact propext ⟨fun z => z.2, fun z => ⟨fun d hd => absurd hd List.not_mem_nil, z⟩⟩
    rw [e2] at e
    exact e
  | d :: ds, H, Q, nd, hm, h => by
    obtain ⟨n1, n2⟩ := List.nodup_cons.mp nd
    obtain ⟨hd, mu⟩ := hm d List.mem_cons_self
    refine ⟨d, us d, hd, mu, fun od0 => locks_read n2 (fun e he => ⟨?_, (hm e (List.mem_cons_of_mem _ he)).2⟩) fun od => ?_⟩
    · rw [upd_ne (fun z : e = d => n1 (by rw [← z]; exact he))]
      exact (hm e (List.mem_cons_of_mem _ he)).1
    · have e := h fun b => if b = d then od0 else od b
      have e1 : lockH H (d :: ds) us (fun b => if b = d then od0 else od b) = lockH (upd H d (.frz od0 (us d))) ds us od := funext fun b => by
        unfold lockH
        dsimp only
        by_cases z : b = d
        · subst z
          rw [if_pos List.mem_cons_self, if_neg n1, if_pos rfl, upd_same]
        · rw [if_neg z, upd_ne z]
          by_cases y : b ∈ ds
          · rw [if_pos (List.mem_cons_of_mem _ y), if_pos y]
          · rw [if_neg (fun x => (List.mem_cons.mp x).elim z y), if_neg y]
      rw [e1] at e
      refine cast (congrArg (t σ (lockH (upd H d (.frz od0 (us d))) ds us od)) (funext fun v => funext fun H' => propext ?_)) e
      have e3 : unlockH H' (d :: ds) us = upd (unlockH H' ds us) d (us d) := funext fun b => by
        unfold unlockH
        by_cases z : b = d
        · subst z
          rw [if_pos List.mem_cons_self, upd_same]
        · rw [upd_ne z]
          by_cases y : b ∈ ds
          · rw [if_pos (List.mem_cons_of_mem _ y), if_pos y]
          · rw [if_neg (fun x => (List.mem_cons.mp x).elim z y), if_neg y]
      rw [e3]
      have eu : unlockH H' ds us d = H' d := if_neg n1
      constructor
      · rintro ⟨a, b⟩
        refine ⟨fun c hc => ?_, ?_, b⟩
        · have := a c (List.mem_cons_of_mem _ hc)
          rw [if_neg (fun z : c = d => n1 (by rw [← z]; exact hc))] at this
          exact this
        · rw [eu]
          have := a d List.mem_cons_self
          rw [if_pos rfl] at this
          exact this
      · rintro ⟨a, b, c⟩
        refine ⟨fun x hx => ?_, c⟩
        by_cases z : x = d
        · subst z
          rw [if_pos rfl, ← eu]
          exact b
        · rw [if_neg z]
          exact a x ((List.mem_cons.mp hx).resolve_left z)
/-! registrations(), of any number of sets -/
def rowsOf (S : Sys) (ts : List Int) : List (Int × Int) := ts.flatMap fun s => if s ∈ S.sets then (S.ents s).map fun l => (s, l) else []
def RgG (S : Sys) (ys : List Int) (H : Hp) (v : V) (r : Int × Int) : Prop := RgAt S ys r.1 H v r.2
theorem rgG_keep {S : Sys} {ys : List Int} {H H' : Hp} {vs : List V} {ls : List (Int × Int)} (p : Paired (RgG S ys H) vs ls) (k : ∀ b o, H b = some o → (∀ xs, o ≠ .tup xs) ∨ H' b = some o) : Paired (RgG S ys H') vs ls := by
  induction p with
  | nil => exact .nil
  | cons r _ ih =>
    obtain ⟨T, v1, v2, r1, r2, h1, h2, h3, h4, h5, h6⟩ := r
    exact .cons ⟨T, v1, v2, r1, r2, h1, (k _ _ h2).elim (fun z => absurd rfl (z _)) id, h3, h4.keep k, h5, h6.keep k⟩ ih
theorem rows_len {S : Sys} (W : WF S) : ∀ ts : List Int, (rowsOf S ts).length ≤ 384 * ts.length
  | [] => Nat.le_refl _
  | t :: ts => by
    have ih := rows_len W ts
    unfold rowsOf at ih ⊢
    rw [List.flatMap_cons, List.length_append, List.length_cons]
    by_cases h : t ∈ S.sets
    · have := W.ents_len h
      rw [if_pos h, List.length_map]
      omega
    · rw [if_neg h, List.length_nil]
      omega
section
variable {P : Program} {w : World} {K : PySem.W.Frag} {mg : Str → Option Value} {base : Heap} {C : Cs}
def spRegsG (C : Cs) : Sp := fun vs H Q _ => OnSys C vs H [] fun S ad dx => WF S ∧
  ∀ (ys : List Int) (H' : Hp) (r : Addr) (rs : List V), ys.Perm S.procs → ys.Pairwise (· ≤ ·) → Same H H' → H r = none → H' r = some (.lst rs) → Paired (RgG S ys H') rs (rowsOf S (thingsOf S [] ys)) → Q (.ref r) H'
theorem okRegsG {f fT fN : Addr} {fd fdT fdN : FuncData} (F : Fun K "registrations" "System.registrations" sRegistrations f fd) (T : ClsF K C.S sysF) (TW : ClsF K C.W wsF) (TR : ClsF K C.R regF)
    (GT : MO P w K mg base 1 C.S "things" ["self"] (spThings C) fT fdT) (GN : MO P w K mg base 2 C.S "name_of" ["self", "thing"] (spNameOf C) fN fdN) : FnOk P w K mg base CX0 3 f fd ["self"] (spRegsG C) := by
  refine F.ok scRegs (fun vs H Q E h => ?_) (fun cdv A outer s H vs Q E hr h => ?_)
  · obtain ⟨_, _, _, rfl, _⟩ := h
    rfl
  · obtain ⟨S, ad, dx, rfl, A0, W, k⟩ := h
    have hp := W.pl
    have ht : ∀ p ∈ S.procs, (S.tab p).length ≤ 8 := fun p hp => W.t8 hp
    have hu := hu_of hr
    have r1 : Room 1 _ := hr.mono (by decide)
    refine ⟨_, pss_cut (ps_set (i := 1) scRegs.nd rfl (Or.inr rfl) (pe_dc (own := [("thing", 2)]) (g := gName 2) (tt := tYes) (tk := tVar 2) (tv := tMeth C.S "name_of" (spNameOf C) [] (fun _ _ _ => False) (tVar 0) (tCons (tVar 2) tNil)) rfl scRegs.nd (pi_list (pe_meth0 (pv 0) T.cl GT.m GT.g r1 GT.b .nil pass0)) (blkOk_by (N := nRegs) (sc := defScope sRegistrations) (by decide +kernel))
        (fun _ _ _ _ _ => pg_name (i := 2) scRegs.nd rfl (Or.inl rfl)) (fun _ _ _ _ _ => pts_nil) (fun _ _ _ _ _ => pv 2) (fun _ _ _ _ _ => pe_meth (pv 0) T.cl GN.m GN.g hr GN.b .nil pass0 (pa_cons (pv 2) pa_nil))))
      (pss_one (ps_ret (pe_locks (pe_lc2 (own := [("thing", 2), ("label", 3), ("kept", 4)]) (vs1 := [3, 4]) (g := gName 2) (tt := tTest (tDIn (tVar 2) (tFld K (tVar 0) "sets"))) (wi1 := iItems (tFld K (tDGet (tFld K (tVar 0) "sets") (tVar 2)) "entries")) (g1 := gTup K 2 (gCons (gName 3) (gCons (gName 4) gNil))) (tt1 := tYes)
        (te := tTup (tCons (tDGet (tVar 1) (tVar 2)) (tCons (tVar 3) (tCons (tFld K (tVar 4) "number") (tCons (tDGet (tVar 1) (tFld K (tVar 4) "source")) (tCons (tFld K (tVar 4) "word") (tCons (tFld K (tVar 4) "armed") tNil)))))))
        rfl scRegs.nd (pi_list (pe_meth0 (pv 0) T.cl GT.m GT.g r1 GT.b .nil pass0)) (blkOk_by (N := nRegs) (sc := defScope sRegistrations) (by decide +kernel)) (by decide)
        (fun _ _ _ _ _ => pg_name (i := 2) scRegs.nd rfl (Or.inl rfl)) (fun _ _ _ _ _ => pts_one (pt_cmp (pc_din hu (pv 2) (pe_fld (pv 0) rfl)) rfl)) (fun _ _ _ _ _ => pi_items (pe_fld (pe_dget hu (pe_fld (pv 0) rfl) (pv 2) (fun _ _ => rfl)) rfl))
        (fun _ _ _ _ _ => pg_tup rfl (pgs_cons (pg_name (i := 3) scRegs.nd rfl (Or.inl rfl)) (pgs_cons (pg_name (i := 4) scRegs.nd rfl (Or.inl rfl)) pgs_nil))) (fun _ _ _ _ _ => pts_nil)
        (fun _ _ _ _ _ => pe_tup (pa_cons (pe_dget hu (pv 1) (pv 2) (fun _ _ => rfl)) (pa_cons (pv 3) (pa_cons (pe_fld (pv 4) rfl) (pa_cons (pe_dget hu (pv 1) (pe_fld (pv 4) rfl) (fun _ _ => rfl)) (pa_cons (pe_fld (pv 4) rfl) (pa_cons (pe_fld (pv 4) rfl) pa_nil)))))))) S.sets.length))), ?_⟩
    have hb := A0.at_ .box trivial
    have Tb := A0.tabAt
    refine ⟨fun σ' H1 => ∃ (ys : List Int) (D : Addr) (kvs : List (Key × V)), ys.Perm S.procs ∧ ys.Pairwise (· ≤ ·) ∧ σ' = [some (.ref (ad .box)), some (.ref D), none, none, none] ∧ Same H H1 ∧ H1 D = some (.dK kvs) ∧ H D = none ∧
      ∀ t ∈ thingsOf S [] ys, ∃ v r, valV kvs (Sum.inl t) = some v ∧ (placesIn S t ys)[0]? = some r ∧ PlAt H1 v r, ?_, ?_⟩
    · walk_at "wn"
      refine tDc_of ?_
      unfold iList
      walk_at "wn"
      refine ⟨_, rfl, ad .box, dx .box, _, rfl, hb, rfl, ?_⟩
      walk_at "wn"
      refine ⟨S, ad, dx, rfl, Tb, hp, ht, fun ys H1 r pm pw s1 nr hr1 => ?_⟩
      refine ⟨r, rfl, ⟨_, SqL.of hr1⟩, fun D hD => ?_⟩
      have tlen := things_len (S := S) (ps := ys) (acc := []) fun p hp => ht p (pm.mem_iff.mp hp)
      have lp := pm.length_eq
      refine rounds_it (walk_list (K := K) (xs := (thingsOf S [] ys).map V.int)) (fun i H' => ∃ kvs : List (Key × V), Same H1 H' ∧ H' D = some (.dK kvs) ∧ kvs.length ≤ i ∧ ∀ t ∈ (thingsOf S [] ys).take i, ∃ v r, valV kvs (Sum.inl t) = some v ∧ (placesIn S t ys)[0]? = some r ∧ PlAt H' v r) ⟨[], Same.new' hD, upd_same, Nat.zero_le _, fun t h => absurd h (by simp)⟩ (fun i H' _ ⟨_, sm, _⟩ => SqL.of (sm _ _ hr1)) ?_ ?_
      · rintro i x H2 H3 hi ⟨kvs, sm, hd, kl, hk⟩ ⟨rfl, ex⟩
        rw [List.getElem?_map] at ex
        rw [List.length_map] at hi
        cases et : (thingsOf S [] ys)[i]? with
        | none => rw [et] at ex; cases ex
        | some t =>
        rw [et] at ex
        cases ex
        obtain ⟨p, hpy, n, hn⟩ := (mem_things.mp (List.mem_of_getElem? et)).resolve_left List.not_mem_nil
        have s3 := s1.trans sm
        walk_at "wn"
        refine ⟨rfl, ?_⟩
        walk_at "wn"
        refine ⟨_, rfl, ad .box, dx .box, _, rfl, s3 _ _ hb, rfl, ?_⟩
        walk_at "wn"
        refine ⟨t, S, ad, dx, rfl, Tb.same s3, hp, ht, ⟨p, pm.mem_iff.mp hpy, n, hn⟩, fun ys2 H4 v r pm2 pw2 s4 e4 pl => ?_⟩
        obtain rfl := sort_uniq (pm2.trans pm.symm) pw2 pw
        have hd4 := s4 _ _ hd
        simp only [List.length_nil, Nat.zero_add] at tlen
        refine ⟨kvs, Sum.inl t, rfl, hd4, by rw [sizeLine_eq]; omega, _, fun b o e => ?_, upd_same, ?_, fun t' ht' => ?_⟩
        · rw [upd_ne (ne_of_none e hD)]
          exact s4 _ _ (sm _ _ e)
        · have := length_putK kvs (Sum.inl t) v
          omega
        · rw [valV_put]
          by_cases z : t' = t
          · subst z
            exact ⟨v, r, if_pos rfl, e4, pl.upd hd4 fun xs z => by cases z⟩
          · rw [List.take_add_one, et, Option.toList_some, List.mem_append, List.mem_singleton] at ht'
            obtain ⟨v', r', a1, a2, a3⟩ := hk t' (ht'.resolve_right z)
            exact ⟨v', r', by rw [if_neg (fun y => z (Sum.inl.inj y))]; exact a1, a2, (a3.keep fun b o e => .inr (s4 _ _ e)).upd hd4 fun xs z => by cases z⟩
      · rintro H' ⟨kvs, sm, hd, kl, hk⟩
        rw [List.length_map, List.take_length] at hk
        walk_at "wn"
        exact ⟨ys, D, kvs, pm, pw, rfl, s1.trans sm, hd, s1.free hD, hk⟩
    · rintro σ' H1 ⟨ys, D, kvs, pm, pw, rfl, sm, hD, nD, hk⟩
      have eds : (S.sets.map fun s => ad (.ent s)).length = S.sets.length := List.length_map ..
      have ent0 : ∀ s ∈ S.sets, H1 (ad (.ent s)) = some (co C S ad dx (.ent s)) := fun s hs => sm _ _ (A0.at_ (.ent s) hs)
      -- what stands in a set's dict, by its address
      have inj : ∀ s ∈ S.sets, ∀ t ∈ S.sets, ad (.ent s) = ad (.ent t) → s = t := fun s hs t ht e => by
        by_cases z : s = t
        · exact z
        · exact absurd e (A0.ne (c := .ent s) (c' := .ent t) hs ht fun y => z (by cases y; rfl))
      let us : Addr → HO := fun b => (H1 b).getD (.dK [])
      have hus : ∀ s ∈ S.sets, us (ad (.ent s)) = co C S ad dx (.ent s) := fun s hs => by
        show (H1 (ad (.ent s))).getD _ = _
        rw [ent0 s hs]
        rfl
      refine g_ret ?_
      rw [← eds]
      refine locks_read (us := us) ?_ (fun d hd => ?_) fun od => ?_
      · refine List.nodup_iff_pairwise_ne.mpr ?_
        rw [List.pairwise_map]
        exact List.Pairwise.imp_of_mem (fun {a b} ha hb ne z => ne (inj a ha b hb z)) (List.nodup_iff_pairwise_ne.mp W.en)
      · obtain ⟨s, hs, rfl⟩ := List.mem_map.mp hd
        rw [hus s hs]
        exact ⟨ent0 s hs, trivial⟩
      have mde : ∀ b, b ∈ (S.sets.map fun s => ad (.ent s)) ↔ ∃ s ∈ S.sets, b = ad (.ent s) := fun b => by
        rw [List.mem_map]
        exact ⟨fun ⟨s, h1, h2⟩ => ⟨s, h1, h2.symm⟩, fun ⟨s, h1, h2⟩ => ⟨s, h1, h2.symm⟩⟩
      generalize hds : (S.sets.map fun s => ad (.ent s)) = ds at mde ⊢
      have hL : ∀ b, b ∉ ds → lockH H1 ds us od b = H1 b := fun b n => if_neg n
      have hLe : ∀ s ∈ S.sets, lockH H1 ds us od (ad (.ent s)) = some (.frz (od (ad (.ent s))) (co C S ad dx (.ent s))) := fun s hs => by
        unfold lockH
        rw [if_pos ((mde _).mpr ⟨s, hs, rfl⟩), hus s hs]
      generalize lockH H1 ds us od = HL at hL hLe ⊢
      have cellL : ∀ c, live S c → (∀ s, c ≠ .ent s) → HL (ad c) = some (co C S ad dx c) := fun c lc n => by
        rw [hL _ fun z => by
          obtain ⟨s, hs, e⟩ := (mde _).mp z
          exact A0.ne (c' := .ent s) lc hs (n s) e]
        exact sm _ _ (A0.at_ c lc)
      have TbL : TabAt C HL S ad dx := ⟨cellL .box trivial (fun _ => by intro z; cases z), cellL .tabD trivial (fun _ => by intro z; cases z), fun p hp => cellL (.tab p) hp (fun _ => by intro z; cases z)⟩
      have nDe : D ∉ ds := fun z => by
        obtain ⟨s, hs, e⟩ := (mde _).mp z
        rw [e, A0.at_ (.ent s) hs] at nD
        cases nD
      have hDL : HL D = some (.dK kvs) := (hL D nDe).trans hD
      refine tLc2_of ?_
      unfold iList
      walk_at "wn"
      refine ⟨_, rfl, ad .box, dx .box, _, rfl, TbL.box, rfl, ?_⟩
      walk_at "wn"
      refine ⟨S, ad, dx, rfl, TbL, hp, ht, fun ys2 H2 r pm2 pw2 s2 nr hr2 => ?_⟩
      obtain rfl := sort_uniq (pm2.trans pm.symm) pw2 pw
      refine ⟨r, rfl, ⟨_, SqL.of hr2⟩, fun D2 hD2 => ?_⟩
      have nd : (thingsOf S [] ys2).Nodup := things_nodup List.nodup_nil
      have tlen : (thingsOf S [] ys2).length ≤ 48 := by
        have a := things_len (S := S) (ps := ys2) (acc := []) fun p hp => ht p (pm.mem_iff.mp hp)
        have b := pm.length_eq
        simp only [List.length_nil, Nat.zero_add] at a
        omega
      have hmem : ∀ t, (t ∈ S.srcs ∨ t ∈ S.sets) → t ∈ thingsOf S [] ys2 := fun t h => mem_things.mpr (.inr (by
        obtain ⟨p, hp, h⟩ := (W.kd t).mpr h
        obtain ⟨n, hn⟩ := List.getElem?_of_mem h
        exact ⟨p, pm.mem_iff.mpr hp, n, hn⟩))
      have cell2 : ∀ c, live S c → (∀ s, c ≠ .ent s) → H2 (ad c) = some (co C S ad dx c) := fun c lc n => s2 _ _ (cellL c lc n)
      have hD2n := s2 _ _ hDL
      have box2 := cell2 .box trivial (fun _ => by intro z; cases z)
      have set2 := cell2 .setD trivial (fun _ => by intro z; cases z)
      have pl2 : ∀ {v r}, PlAt H1 v r → PlAt H2 v r := fun {v r} ⟨T, a1, a2⟩ => ⟨T, a1, s2 _ _ ((hL T fun z => by
        obtain ⟨s, hs, e⟩ := (mde _).mp z
        rw [e, ent0 s hs] at a2
        cases a2).trans a2)⟩
      have upto : ∀ {i t}, (thingsOf S [] ys2)[i]? = some t → rowsOf S ((thingsOf S [] ys2).take (i + 1)) = rowsOf S ((thingsOf S [] ys2).take i) ++ (if t ∈ S.sets then (S.ents t).map fun l => (t, l) else []) := fun {i t} e => by
        unfold rowsOf
        rw [List.take_add_one, e, Option.toList_some, List.flatMap_append, List.flatMap_cons, List.flatMap_nil, List.append_nil]
      refine rounds_it (walk_list (K := K) (xs := (thingsOf S [] ys2).map V.int)) (fun i H' => ∃ rs, Same H2 H' ∧ H' D2 = some (.lst rs) ∧ Paired (RgG S ys2 H') rs (rowsOf S ((thingsOf S [] ys2).take i))) ⟨[], Same.new' hD2, upd_same, .nil⟩ (fun i H' _ ⟨_, sm, _⟩ => SqL.of (sm _ _ hr2)) ?_ ?_
      · rintro i x H3 H4 hi ⟨rs, s3, hd, pr⟩ ⟨rfl, ex⟩
        rw [List.getElem?_map] at ex
        rw [List.length_map] at hi
        cases et : (thingsOf S [] ys2)[i]? with
        | none => rw [et] at ex; cases ex
        | some t =>
        rw [et] at ex
        cases ex
        have lrow := rows_len W ((thingsOf S [] ys2).take i)
        rw [List.length_take] at lrow
        have lrs := Paired.length pr
        walk_at "wn"
        refine ⟨rfl, ?_⟩
        walk_at "wn"
        refine ⟨_, rfl, _, rfl, ad .box, C.S, dx .box, _, _, rfl, s3 _ _ box2, T.cl, T.no _ (by decide), rfl, ?_⟩
        refine ⟨ad .setD, _, rfl, DGet.k (k := Sum.inl t) (s3 _ _ set2), ?_⟩
        rw [ent_val]
        rw [upto et]
        by_cases z : t ∈ S.sets
        · have ws2 := cell2 (.ws t) z (fun _ => by intro z; cases z)
          have e2 := s2 _ _ (hLe t z)
          have lent := W.ents_len z
          rw [if_pos z, if_pos z]
          refine ⟨_, rfl, ?_⟩
          refine iteT ?_
          have hv : valV (entKV S.sets fun s => ad (.ws s)) (Sum.inl t) = some (.ref (ad (.ws t))) := by rw [ent_val, if_pos z]
          refine ⟨_, rfl, ad .box, C.S, dx .box, _, _, rfl, s3 _ _ box2, T.cl, T.no _ (by decide), rfl, _, rfl, ad .setD, _, rfl, hv ▸ DGet.k (k := Sum.inl t) (s3 _ _ set2), ad (.ws t), C.W, dx (.ws t), _, _, rfl, s3 _ _ ws2, TW.cl, TW.no _ (by decide), rfl, ad (.ent t), od (ad (.ent t)), _, rfl, s3 _ _ e2, ?_⟩
          refine rounds_it (walk_items (kvs := entKV (S.ents t) fun l => ad (.reg t l)) (o := od (ad (.ent t))) (d := ad (.ent t))) (fun j H' => ∃ rs, Same H2 H' ∧ H' D2 = some (.lst rs) ∧ Paired (RgG S ys2 H') rs (rowsOf S ((thingsOf S [] ys2).take i) ++ ((S.ents t).take j).map fun l => (t, l))) ⟨rs, s3, hd, by rw [List.take_zero, List.map_nil, List.append_nil]; exact pr⟩ (fun j H' _ ⟨_, sm, _⟩ => sm _ _ e2) ?_ ?_
          · rintro j x H5 H6 hj ⟨rs, s5, hd5, pr5⟩ ⟨T1, x1, y1, rfl, nT, rfl, ex, ey⟩
            cases el : (S.ents t)[j]? with
            | none =>
              have h1 := List.getElem?_eq_none_iff.mp el
              have h2 : j < ((S.ents t).map fun l => ((Sum.inl l : Key), V.ref (ad (.reg t l)))).length := hj
              rw [List.length_map] at h2
              omega
            | some l =>
            have ek : (entKV (S.ents t) fun l => ad (.reg t l))[j]? = some (Sum.inl l, .ref (ad (.reg t l))) := by
              unfold entKV
              rw [List.getElem?_map, el]
              rfl
            have ex : ((entKV (S.ents t) fun l => ad (.reg t l))[j]?.map fun kv => kV kv.1) = some x1 := ex
            have ey : ((entKV (S.ents t) fun l => ad (.reg t l))[j]?.map Prod.snd) = some y1 := ey
            rw [ek] at ex ey
            obtain rfl := Option.some.inj ex
            obtain rfl := Option.some.inj ey
            have hl : l ∈ S.ents t := List.mem_of_getElem? el
            have jlt : j < (S.ents t).length := (List.getElem?_eq_some_iff.mp el).1
            obtain ⟨v1, q1, a1, a2, a3⟩ := hk t (hmem t (.inr z))
            obtain ⟨v2, q2, b1, b2, b3⟩ := hk (S.reg t l).src (hmem _ (.inl (W.rs t z l hl)))
            have s6 := Same.new' (o := .tup [kV (Sum.inl l), .ref (ad (.reg t l))]) nT
            have s7 := s5.trans s6
            have hd6 := s6 _ _ hd5
            have pr6 := rgG_keep pr5 fun b o h => .inr (s6 _ _ h)
            have reg6 := s7 _ _ (cell2 (.reg t l) ⟨z, hl⟩ (fun _ => by intro z; cases z))
            have D6 := s7 _ _ hD2n
            refine ⟨T1, _, rfl, SqT.of upd_same, rfl, _, _, rfl, ?_⟩
            walk_at "wn"
            refine ⟨_, _, rfl, ?_⟩
            walk_at "wn"
            refine ⟨rfl, rfl, ?_⟩
            generalize upd H5 T1 (.tup [kV (Sum.inl l), .ref (ad (.reg t l))]) = H6 at s7 hd6 pr6 reg6 D6 ⊢
            walk_at "wn"
            refine ⟨_, rfl, _, rfl, D, _, rfl, a1 ▸ DGet.k (k := Sum.inl t) D6, ?_⟩
            walk_at "wn"
            refine ⟨_, rfl, ad (.reg t l), C.R, dx (.reg t l), _, _, rfl, reg6, TR.cl, TR.no _ (by decide), rfl, ?_⟩
            walk_at "wn"
            refine ⟨_, rfl, _, rfl, ad (.reg t l), C.R, dx (.reg t l), _, _, rfl, reg6, TR.cl, TR.no _ (by decide), rfl, D, _, rfl, b1 ▸ DGet.k (k := Sum.inl (S.reg t l).src) D6, ?_⟩
            walk_at "wn"
            refine ⟨_, rfl, ad (.reg t l), C.R, dx (.reg t l), _, _, rfl, reg6, TR.cl, TR.no _ (by decide), rfl, ?_⟩
            walk_at "wn"
            refine ⟨_, rfl, ad (.reg t l), C.R, dx (.reg t l), _, _, rfl, reg6, TR.cl, TR.no _ (by decide), rfl, ?_⟩
            walk_at "wn"
            refine ⟨by show 6 ≤ sizeLine; decide, fun T2 hT2 => ?_⟩
            have nT2 : T2 ≠ D2 := fun z => by rw [z, hd6] at hT2; cases hT2
            have s8 := Same.new' (o := .tup [v1, .int l, .int (S.reg t l).num, v2, .str (S.reg t l).word, .bl (S.reg t l).armed]) hT2
            have kp : ∀ b o, H6 b = some o → (∀ xs, o ≠ .tup xs) ∨ upd (upd H6 T2 (.tup [v1, .int l, .int (S.reg t l).num, v2, .str (S.reg t l).word, .bl (S.reg t l).armed])) D2 (.lst (rs ++ [.ref T2])) b = some o := fun b o h => by
              by_cases z : b = D2
              · rw [z, hd6] at h
                cases h
                exact .inl fun xs y => by cases y
              · exact .inr (by rw [upd_ne z]; exact s8 _ _ h)
            have l1 := pr6.length
            rw [List.length_append, List.length_map, List.length_take] at l1
            refine ⟨rs, s8 _ _ hd6, by rw [sizeLine_eq]; omega, _, fun b o h => ?_, upd_same, ?_⟩
            · rw [upd_ne (ne_of_none h hD2)]
              exact (s7.trans s8) _ _ h
            · rw [List.take_add_one, el, Option.toList_some, List.map_append, ← List.append_assoc]
              exact paired_snoc (rgG_keep pr6 kp) ⟨T2, v1, v2, q1, q2, rfl, (upd_ne nT2).trans upd_same, a2, ((pl2 a3).keep fun b o h => .inr (s7 _ _ h)).keep kp, b2, ((pl2 b3).keep fun b o h => .inr (s7 _ _ h)).keep kp⟩
          · rintro H' ⟨rs, s5, hd5, pr5⟩
            have e : (S.ents t).take (entKV (S.ents t) fun l => ad (.reg t l)).length = S.ents t := by
              unfold entKV
              rw [List.length_map, List.take_length]
            rw [e] at pr5
            exact ⟨rs, s5, hd5, pr5⟩
        · rw [if_neg z, if_neg z]
          refine ⟨_, rfl, ?_⟩
          refine iteF ?_
          exact ⟨rs, s3, hd, by rw [List.append_nil]; exact pr⟩
      · rintro H' ⟨rs, s3, hd, pr⟩
        rw [List.length_map, List.take_length] at pr
        have e3 : ∀ s ∈ S.sets, H' (ad (.ent s)) = some (.frz (od (ad (.ent s))) (co C S ad dx (.ent s))) := fun s hs => s3 _ _ (s2 _ _ (hLe s hs))
        have nE : D2 ∉ ds := fun z => by
          obtain ⟨s, hs, e⟩ := (mde _).mp z
          rw [e, s2 _ _ (hLe s hs)] at hD2
          cases hD2
        refine ⟨fun d hd => ?_, k ys2 _ D2 rs pm pw (fun b o h => ?_) ?_ ?_ (rgG_keep pr fun b o h => ?_)⟩
        · obtain ⟨s, hs, rfl⟩ := (mde _).mp hd
          rw [hus s hs]
          exact e3 s hs
        · unfold unlockH
          by_cases z : b ∈ ds
          · obtain ⟨s, hs, rfl⟩ := (mde _).mp z
            rw [if_pos z, hus s hs, ← h, A0.at_ (.ent s) hs]
          · rw [if_neg z]
            exact s3 _ _ (s2 _ _ ((hL b z).trans (sm _ _ h)))
        · cases h : H D2 with
          | none => rfl
          | some o => exact absurd (s2 _ _ ((hL D2 nE).trans (sm _ _ h))) (by rw [hD2]; exact fun z => by cases z)
        · unfold unlockH
          rw [if_neg nE]
          exact hd
        · unfold unlockH
          by_cases z : b ∈ ds
          · obtain ⟨s, hs, rfl⟩ := (mde _).mp z
            rw [e3 s hs] at h
            cases h
            exact .inl fun xs y => by cases y
          · exact .inr (by rw [if_neg z]; exact h)
end

/-! the bag of draws: two numbers that are not negative, the second one below 2 ^ 31 -/
def BagAt (H : Hp) (p : Addr) : Prop := ∃ a b : Int, H p = some (.lst [.int a, .int b]) ∧ 0 ≤ a ∧ 0 ≤ b ∧ b < 2147483648
def Dr (p : Addr) (H H' : Hp) : Prop := (∀ a o, a ≠ p → H a = some o → H' a = some o) ∧ BagAt H' p
structure DrawTxt (mg : Str → Option Value) : Prop where
  len : mg "len" = none
  enum : mg "enumerate" = none
  int : mg "int" = none
  abs : mg "abs" = none
def spBag (K : PySem.W.Frag) : Sp := fun vs H Q _ => ∃ (a : Addr) (ns : List Int) (i : Nat), vs = [.ref a, .int i] ∧ SqL K H a (ns.map V.int) ∧ ns.length ≤ 63 ∧ i ≤ 100 ∧
  ∀ (H' : Hp) (p : Addr), H p = none → Same H H' → BagAt H' p → Q (.ref p) H'
def spTake : Sp := fun vs H Q _ => ∃ (p : Addr) (m : Int), vs = [.ref p, .int m] ∧ BagAt H p ∧ 0 < m ∧ m < 4611686018427387904 ∧
  ∀ (k : Int) (H' : Hp), 0 ≤ k → k < m → (∀ b, b ≠ p → H' b = H b) → BagAt H' p → Q (.int k) H'
def spOf (K : PySem.W.Frag) : Sp := fun vs H Q _ => ∃ (p l : Addr) (xs : List V), vs = [.ref p, .ref l] ∧ BagAt H p ∧ SqL K H l xs ∧ l ≠ p ∧ 0 < xs.length ∧ xs.length ≤ 1000 ∧
  ∀ (k : Nat) (v : V) (H' : Hp), xs[k]? = some v → (∀ b, b ≠ p → H' b = H b) → BagAt H' p → Q v H'
section
variable {P : Program} {w : World} {K : PySem.W.Frag} {mg : Str → Option Value} {base : Heap}
theorem scBag : FnScope ["_law_script", "_law_at", "_law_number", "_law_mixed", "_law_spot", "_law_each"] ["_law_script", "_law_at"] (defScope sBag) := ⟨rfl, rfl, rfl, by decide +kernel, rfl, by decide +kernel, by decide +kernel⟩
theorem okBag {f : Addr} {fd : FuncData} (F : Fun K "_law_bag" "_law_bag" sBag f fd) (T : DrawTxt mg) : FnOk P w K mg base CX0 1 f fd ["_law_script", "_law_at"] (spBag K) := by
  refine F.ok scBag (fun vs H Q E h => ?_) (fun cdv A outer s H vs Q E hr h => ?_)
  · obtain ⟨a, ns, i, rfl, _⟩ := h
    rfl
  · obtain ⟨a, ns, i, rfl, hS, hl, hi, k⟩ := h
    refine ⟨_, pss_cut (ps_set (i := 2) scBag.nd rfl (Or.inl rfl) (pe_ifExp (pt_cmpR op_lt (pv 1) (pe_callB cLenQ (by rfl) T.len PySem.boot_len (pa_cons (pv 0) pa_nil)) (nomark _)) (pe_ix ix_list (pv 0) (pv 1) (fun _ _ => rfl)) pe_int))
      (pss_cons (ps_set (i := 3) scBag.nd rfl (Or.inl rfl) (pe_op op_add (pe_op op_mul pe_int (pv 1)) pe_int))
      (pss_cut (ps_for PassesOwn.never rfl (pi_enum (by rfl) T.enum (pa_cons (pe_slice sl_list (pv 0) po_none (po_some pe_int)) pa_nil)) (pg_tup rfl (pgs_cons (pg_name (i := 4) scBag.nd rfl (Or.inl rfl)) (pgs_cons (pg_name (i := 5) scBag.nd rfl (Or.inl rfl)) pgs_nil)))
        (pss_one (ps_set (i := 3) scBag.nd rfl (Or.inl rfl) (pe_op op_mod (pe_callTy cInt1 (by rfl) T.int PyProof.Rows.boot_int (pa_cons (pe_op op_add (pe_op op_add (pe_op op_add (pe_op op_mul (pv 3) pe_int) (pe_op op_mod (pe_callTy cInt1 (by rfl) T.int PyProof.Rows.boot_int (pa_cons (pv 5) pa_nil)) pe_int)) (pe_op op_mul pe_int (pv 4))) pe_int) pa_nil)) pe_int))))
      (pss_one (ps_ret (pe_lst (pa_cons (pe_ifExp (pt_cmpR op_ge (pe_callB cAbs (by rfl) T.abs (by decide +kernel) (pa_cons (pv 2) pa_nil)) (pe_op op_pow pe_int pe_int) (nomark _)) (pe_callB cAbs (by rfl) T.abs (by decide +kernel) (pa_cons (pv 2) pa_nil)) pe_int) (pa_cons (pv 3) pa_nil))))))), ?_⟩
    refine ⟨fun σ' H' => ∃ c : Int, σ' = [some (.ref a), some (.int i), some (.int c), none, none, none] ∧ H' = H, ?_, ?_⟩
    · walk_at "wn"
      refine ⟨a, _, rfl, .inl hS, ?_⟩
      walk_at "wn"
      refine ite2 (fun hc => ?_) (fun hc => ?_)
      · have hlt : i < (ns.map V.int).length := by have := of_decide_eq_true hc; omega
        rw [List.length_map] at hlt
        walk_at "wn"
        refine ⟨a, _, _, _, rfl, rfl, hS, atI_nat (v := V.int (ns[i])) (by rw [List.getElem?_map, List.getElem?_eq_getElem hlt]; rfl), ?_⟩
        exact ⟨_, rfl, rfl⟩
      · exact ⟨0, rfl, rfl⟩
    · rintro σ' H' ⟨c, rfl, rfl⟩
      walk_at "wn"
      refine ⟨fun σ' H2 => ∃ (b : Int) (u v : Option V), 0 ≤ b ∧ b < 2147483648 ∧ σ' = [some (.ref a), some (.int i), some (.int c), some (.int b), u, v] ∧ Same H' H2, ?_, ?_⟩
      · show tSl _ _ _ _ _ _ _
        walk_at "wn"
        refine ⟨a, _, rfl, hS, fun p hp => ?_⟩
        walk_at "wn"
        refine ⟨p, _, rfl, SqL.of upd_same, ?_⟩
        refine for_it (walk_enum (xs := cutV (ns.map V.int) none (some 60))) (fun j σ' H3 => ∃ (b : Int) (u v : Option V), 0 ≤ b ∧ b < 2147483648 ∧ σ' = [some (.ref a), some (.int i), some (.int c), some (.int b), u, v] ∧ Same (upd H' p (.lst (cutV (ns.map V.int) none (some 60)))) H3) ?_ ?_ ?_ ?_
        · exact ⟨_, none, none, by omega, by omega, rfl, Same.refl _⟩
        · rintro j σ' H3 hj ⟨b, u, v, b0, b1, rfl, sm⟩
          exact sm.seq (SqL.of upd_same)
        · rintro j x σ' H3 H4 hj ⟨b, u, v, b0, b1, rfl, sm⟩ ⟨T1, x1, y1, rfl, nT, rfl, hx, hy⟩
          obtain rfl := Option.some.inj hx
          obtain ⟨z, rfl⟩ : ∃ z, y1 = V.int z := by
            have q : y1 ∈ ns.map V.int := List.mem_of_mem_drop (List.mem_of_mem_take (List.mem_of_getElem? hy))
            obtain ⟨z, _, e⟩ := List.mem_map.mp q
            exact ⟨z, e.symm⟩
          refine ⟨T1, _, rfl, SqT.of upd_same, rfl, _, _, rfl, ?_⟩
          walk_at "wn"
          refine ⟨_, _, rfl, ?_⟩
          walk_at "wn"
          refine ⟨rfl, ?_⟩
          walk_at "wn"
          refine ⟨_, _, _, by omega, by omega, rfl, fun x o hx => ?_⟩
          rw [upd_ne (ne_of_none (sm _ _ hx) nT)]
          exact sm _ _ hx
        · rintro σ' H3 ⟨b, u, v, b0, b1, rfl, sm⟩
          exact ⟨b, u, v, b0, b1, rfl, fun x o hx => sm _ _ (by rw [upd_ne (ne_of_none hx hp)]; exact hx)⟩
      · rintro σ' H2 ⟨b, u, v, b0, b1, rfl, sm⟩
        walk_at "wn"
        refine g_rI ⟨by decide, by decide, by decide⟩ ?_
        walk_at "wn"
        have fin : ∀ z : Int, 0 ≤ z → ([V.int z, V.int b].length ≤ sizeLine ∧ ∀ p, H2 p = none → Q (V.ref p) (upd H2 p (HO.lst [V.int z, V.int b]))) := fun z hz => ⟨by show 2 ≤ sizeLine; decide, fun p hp => k _ p (sm.free hp) (fun x o hx => by
          rw [upd_ne (ne_of_none (sm _ _ hx) hp)]
          exact sm _ _ hx) ⟨z, b, upd_same, hz, b0, b1⟩⟩
        refine ite2 (fun hc => ?_) (fun hc => ?_)
        · walk_at "wn"
          exact fin _ (by split <;> omega)
        · walk_at "wn"
          exact fin 0 (by decide)
theorem scTake : FnScope ["_law_bag_here", "_law_many", "_law_digit"] ["_law_bag_here", "_law_many"] (defScope sTake) := ⟨rfl, rfl, rfl, by decide +kernel, rfl, by decide +kernel, by decide +kernel⟩
theorem okTake {f : Addr} {fd : FuncData} (F : Fun K "_law_take" "_law_take" sTake f fd) (T : DrawTxt mg) : FnOk P w K mg base CX0 1 f fd ["_law_bag_here", "_law_many"] spTake := by
  refine F.ok scTake (fun vs H Q E h => ?_) (fun cdv A outer s H vs Q E hr h => ?_)
  · obtain ⟨a, m, rfl, _⟩ := h
    rfl
  · obtain ⟨p, m, rfl, ⟨a, b, hp, a0, b0, b1⟩, m0, m1, k⟩ := h
    refine ⟨_, pss_cons (ps_if (pt_cmpR op_gt (pe_ix ix_list (pv 0) pe_int (fun _ _ => rfl)) pe_int (nomark _))
        (pss_cons (ps_set (i := 2) scTake.nd rfl (Or.inl rfl) (pe_op op_mod (pe_callTy cInt1 (by rfl) T.int PyProof.Rows.boot_int (pa_cons (pe_ix ix_list (pv 0) pe_int (fun _ _ => rfl)) pa_nil)) (pv 1)))
        (pss_cons (ps_asg (pe_op op_fdivW (pe_ix ix_list (pv 0) pe_int (fun _ _ => rfl)) (pv 1)) (pg_sub (pv 0) pe_int set_list))
        (pss_one (ps_ret (pv 2))))) pss_nil)
      (pss_cons (ps_asg (pe_op op_mod (pe_callTy cInt1 (by rfl) T.int PyProof.Rows.boot_int (pa_cons (pe_op op_add (pe_op op_mul (pe_ix ix_list (pv 0) pe_int (fun _ _ => rfl)) pe_int) pe_int) pa_nil)) pe_int) (pg_sub (pv 0) pe_int set_list))
      (pss_one (ps_ret (pe_op op_mod (pe_op op_fdivW (pe_op op_mod (pe_callTy cInt1 (by rfl) T.int PyProof.Rows.boot_int (pa_cons (pe_op op_mul (pe_op op_fdivW (pe_ix ix_list (pv 0) pe_int (fun _ _ => rfl)) pe_int) pe_int) pa_nil)) pe_int) pe_int) (pv 1))))), ?_⟩
    walk_at "wn"
    refine ite2 (fun hc => ?_) (fun hc => ?_)
    · walk_at "wn"
      refine k _ _ (Int.emod_nonneg _ (by omega)) (Int.emod_lt_of_pos _ m0) (fun x hx => upd_ne hx) ⟨_, _, upd_same, Int.ediv_nonneg a0 (by omega), b0, b1⟩
    · walk_at "wn"
      refine k _ _ (Int.emod_nonneg _ (by omega)) (Int.emod_lt_of_pos _ m0) (fun x hx => upd_ne hx) ⟨_, _, upd_same, a0, by omega, by omega⟩
theorem scOf : FnScope ["_law_bag_here", "_law_some"] ["_law_bag_here", "_law_some"] (defScope sOf) := ⟨rfl, rfl, rfl, by decide +kernel, rfl, by decide +kernel, by decide +kernel⟩
theorem okOf {f fT : Addr} {fd fdT : FuncData} (F : Fun K "_law_of" "_law_of" sOf f fd) (T : DrawTxt mg) (FT : Fun K "_law_take" "_law_take" sTake fT fdT) (gT : mg "_law_take" = some (.ref fT)) (bT : Binds K fdT ["_law_bag_here", "_law_many"] []) : FnOk P w K mg base CX0 2 f fd ["_law_bag_here", "_law_some"] (spOf K) := by
  have GT : FnOk P w K mg base CX0 1 fT fdT ["_law_bag_here", "_law_many"] spTake := okTake FT T
  refine F.ok scOf (fun vs H Q E h => ?_) (fun cdv A outer s H vs Q E hr h => ?_)
  · obtain ⟨a, l, xs, rfl, _⟩ := h
    rfl
  · obtain ⟨p, l, xs, rfl, hb, hx, hl, l0, l1, k⟩ := h
    refine ⟨_, pss_one (ps_ret (pe_ix ix_seq (pv 1) (pe_call GT hr (by rfl) gT FT.kp bT .nil pass0 (pa_cons (pv 0) (pa_cons (pe_callB cLenQ (by rfl) T.len PySem.boot_len (pa_cons (pv 1) pa_nil)) pa_nil))) (fun _ _ => rfl))), ?_⟩
    walk_at "wn"
    refine ⟨l, xs, rfl, .inl hx, ?_⟩
    walk_at "wn"
    refine ⟨p, _, rfl, hb, by omega, by omega, fun i H1 i0 i1 he hb1 => ?_⟩
    obtain ⟨j, rfl⟩ := Int.eq_ofNat_of_zero_le i0
    have hj : j < xs.length := by omega
    exact .inl ⟨l, xs, _, xs[j], rfl, rfl, seq_at (he l hl) hx, atI_nat (List.getElem?_eq_getElem hj), k j _ H1 (List.getElem?_eq_getElem hj) he hb1⟩
end

theorem takes0 {X : Cx} : Takes X (fun _ _ _ _ => False) := fun u s' ⟨_, _, _, _, _, _, _, _, _, _, _, _, _, _, _, _, w⟩ => w.elim
abbrev EF : XK := fun _ _ _ => False
theorem passN {X : Cx} : Passes (L2.CX X.prog X.w) X EF := passX takes0
theorem paired_len {α β : Type} {R : α → β → Prop} : ∀ {xs : List α} {ys : List β}, Paired R xs ys → xs.length = ys.length
  | _, _, .nil => rfl
  | _, _, .cons _ p => congrArg Nat.succ (paired_len p)
/-! a method called where what it raises is caught here: the caller's state is known -/
section
variable {X : Cx} {CX : CXT} {k n : Nat} {f C : Addr} {fd : FuncData} {ps ks : List Str} {sp : Sp} {g : List Value → List Value → List Value} {gV : List V → List V → List V} {pins : List (Addr × Obj)} {σ : L2.St} {H : Hp} {s : Shared} {Q : VK} {us ws : List Value} {vs zs : List V}
def tMethA (C : Addr) (m : Str) (n j : Nat) (sp : Sp) (gV : List V → List V → List V) (E : L2.St → XK) (ta : TE) (t tk : TA) : TE := fun σ H Q => ta σ H fun x H1 => ∃ a dx fs, x = .ref a ∧ H1 a = some (.ins C dx fs) ∧ fs.lookup m = none ∧ t σ H1 fun vs H2 => tk σ H2 fun zs H3 => vs.length = n ∧ zs.length = j ∧ sp (gV (x :: vs) zs) H3 Q (E σ)
end
/-! the law's heap: its system, and the law's own objects O -/
structure LW (C : Cs) (Hb : Hp) (x : Addr) (H : Hp) (S : Sys) (ad dx : Cell → Addr) (O : Hp) : Prop where
  at_ : At C H S ad dx
  box : ad .box = x
  on : ∀ b o, O b = some o → H b = some o
  no : ∀ b o, O b = some o → ¬ own S ad b
  ob : ∀ b o, O b = some o → Hb b = none
  old : ∀ q o, Hb q = some o → H q = some o
  nb : ∀ b, own S ad b → Hb b = none
section
variable {C : Cs} {Hb H H1 H' : Hp} {x b : Addr} {S S' : Sys} {ad ad' dx dx' : Cell → Addr} {O : Hp} {o o' : HO}
theorem LW.same (W : LW C Hb x H S ad dx O) (s : Same H H') : LW C Hb x H' S ad dx O :=
  ⟨W.at_.same s, W.box, fun b o h => s _ _ (W.on b o h), W.no, W.ob, fun q o h => s _ _ (W.old q o h), W.nb⟩
theorem LW.hbn (W : LW C Hb x H S ad dx O) {b : Addr} (h : H b = none) : Hb b = none := by
  cases q : Hb b with
  | none => rfl
  | some o => rw [W.old b o q] at h; cases h
theorem LW.step (W : LW C Hb x H S ad dx O) (A : At C H' S' ad' dx') (st : Step H S ad H' S' ad') : LW C Hb x H' S' ad' dx' O := by
  refine ⟨A, st.box.trans W.box, fun b o h => st.keep _ _ (W.no b o h) (W.on b o h), fun b o h z => ?_, W.ob, fun q o h => st.keep _ _ (fun z => by rw [W.nb q z] at h; cases h) (W.old q o h), fun b hb => ?_⟩
  · rcases st.new b z with y | y
    · exact W.no b o h y
    · rw [W.on b o h] at y; cases y
  · rcases st.new b hb with z | z
    · exact W.nb b z
    · exact W.hbn z
/-- one of the law's own objects is written -/
theorem LW.put (W : LW C Hb x H S ad dx O) (hb : O b = some o) (h : H' b = some o') (k : ∀ q u, q ≠ b → H q = some u → H' q = some u) : LW C Hb x H' S ad dx (upd O b o') := by
  refine ⟨⟨fun c hc => k _ _ (fun z => W.no b o hb ⟨c, hc, z⟩) (W.at_.at_ c hc), W.at_.inj⟩, W.box, fun d u hd => ?_, fun d u hd => ?_, fun d u hd => ?_, fun q u hq => k q u (fun z => by rw [z, W.ob b o hb] at hq; cases hq) (W.old q u hq), W.nb⟩
  all_goals
    by_cases z : d = b
    · subst z
      rw [upd_same] at hd
      cases hd
      first | exact h | exact W.no _ _ hb | exact W.ob _ _ hb
    · rw [upd_ne z] at hd
      first | exact k _ _ z (W.on _ _ hd) | exact W.no _ _ hd | exact W.ob _ _ hd
/-- one more object of the law's own -/
theorem LW.new (W : LW C Hb x H S ad dx O) (hb : H b = none) (h : H' b = some o) (s : Same H H') : LW C Hb x H' S ad dx (upd O b o) := by
  have W1 := W.same s
  refine ⟨W1.at_, W1.box, fun d u hd => ?_, fun d u hd => ?_, fun d u hd => ?_, W1.old, W1.nb⟩
  all_goals
    by_cases z : d = b
    · subst z
      rw [upd_same] at hd
      cases hd
      first | exact h | exact W.at_.not_own hb | exact W.hbn hb
    · rw [upd_ne z] at hd
      first | exact W1.on _ _ hd | exact W1.no _ _ hd | exact W1.ob _ _ hd
theorem LW.fresh (W : LW C Hb x H S ad dx O) (hb : H b = none) : O b = none := by
  cases e : O b with
  | none => rfl
  | some o => rw [W.on b o e] at hb; cases hb
theorem LW.hb (W : LW C Hb x H S ad dx O) : H x = some (sysO C.S (dx .box) S (ad .tabD) (ad .srcD) (ad .setD)) := by rw [← W.box]; exact W.at_.at_ .box trivial
theorem BagAt.lst {H : Hp} {p : Addr} (h : BagAt H p) : ∃ xs, H p = some (.lst xs) := by
  obtain ⟨a, b, h, _⟩ := h
  exact ⟨_, h⟩
theorem LW.draw {p : Addr} (W : LW C Hb x H S ad dx O) (hp : BagAt O p) (e : ∀ b, b ≠ p → H' b = H b) (bg : BagAt H' p) : ∃ xs, BagAt (upd O p (.lst xs)) p ∧ LW C Hb x H' S ad dx (upd O p (.lst xs)) := by
  obtain ⟨ys, hy⟩ := hp.lst
  obtain ⟨a, b, h, r⟩ := bg
  exact ⟨_, ⟨a, b, upd_same, r⟩, W.put hy h fun q u n hq => (e q n).trans hq⟩
theorem LW.bagH {p : Addr} (W : LW C Hb x H S ad dx O) (hp : BagAt O p) : BagAt H p := by
  obtain ⟨a, b, h, r⟩ := hp
  exact ⟨a, b, W.on _ _ h, r⟩
/-- a system is made -/
theorem LW.start {Hm H3 : Hp} {P0 N0 : Int} {dx0 : Addr} (s : Same Hb H) (on : ∀ b o, O b = some o → H b = some o) (ob : ∀ b o, O b = some o → Hb b = none) (hx : H x = none) (hd : H dx0 = none) (hm : ∀ b, b ≠ x → b ≠ dx0 → Hm b = H b)
    (A : At C H3 (newSys P0 N0) ad dx) (hb : ad .box = x) (k3 : ∀ b o, b ≠ x → Hm b = some o → H3 b = some o) (n3 : ∀ b, own (newSys P0 N0) ad b → b = x ∨ Hm b = none) : LW C Hb x H3 (newSys P0 N0) ad dx O := by
  have sH : Same H H3 := fun b o e => k3 b o (ne_of_none e hx) ((hm b (ne_of_none e hx) (ne_of_none e hd)).trans e)
  have fr : ∀ b, own (newSys P0 N0) ad b → H b = none := fun b h => by
    rcases n3 b h with z | z
    · rw [z]
      exact hx
    · by_cases e : b = x
      · rw [e]
        exact hx
      · by_cases e2 : b = dx0
        · rw [e2]
          exact hd
        · rw [hm b e e2] at z
          exact z
  refine ⟨A, hb, fun b o e => sH _ _ (on b o e), fun b o e z => ?_, ob, fun q o e => sH _ _ (s _ _ e), fun b h => ?_⟩
  · have := fr b z
    rw [on b o e] at this
    cases this
  · cases e : Hb b with
    | none => rfl
    | some o =>
      have := fr b h
      rw [s b o e] at this
      cases this
end
/-! pairs of numbers -/
abbrev Pr := Int × Int
def PrAt (H : Hp) (v : V) (r : Pr) : Prop := ∃ T, v = .ref T ∧ H T = some (.tup [.int r.1, .int r.2])
theorem paired_at {α β : Type} {R : α → β → Prop} : ∀ {xs : List α} {ys : List β}, Paired R xs ys → ∀ {i : Nat} {x : α}, xs[i]? = some x → ∃ y, ys[i]? = some y ∧ R x y
  | _, _, .nil, i, y, h => by cases i <;> cases h
  | _, _, .cons r p, 0, y, h => by
    cases h
    exact ⟨_, rfl, r⟩
  | _, _, .cons r p, i + 1, y, h => paired_at p (i := i) h
theorem dp_ints {K : PySem.W.Frag} {H : Hp} : ∀ l : List Int, DpAll K H (l.map V.int) (l.map PyData.int)
  | [] => .nil
  | _ :: l => .cons (.int _) (dp_ints l)
theorem ints_lay : ∀ l : List Int, PyData.canLayAll0 (l.map PyData.int) = true ∧ PyData.depthAll (l.map PyData.int) = 0
  | [] => ⟨rfl, rfl⟩
  | c :: l => by
    obtain ⟨a, b⟩ := ints_lay l
    refine ⟨?_, ?_⟩
    · simp only [List.map_cons, PyData.canLayAll0, a, Bool.and_true, PyData.canLay0]
    · simp only [List.map_cons, PyData.depthAll, b, PyData.depth]
      rfl
theorem ints_shaped (l : List Int) : SeqAt.shaped (.list (l.map PyData.int)) = true := by
  obtain ⟨a, b⟩ := ints_lay l
  unfold SeqAt.shaped
  rw [Bool.and_eq_true]
  refine ⟨by simp only [PyData.canLay0]; exact a, decide_eq_true ?_⟩
  simp only [PyData.depth, b]
  decide
section
variable {K : PySem.W.Frag} {H : Hp} {a b : Addr} {Q : VK}
end
def prD (r : Pr) : PyData := .tuple [.int r.1, .int r.2]
/-! what registrations() gives, told by data -/
def plD (r : Int × Nat) : PyData := .tuple [.int r.1, .int (r.2 : Int)]
def fst0 (l : List (Int × Nat)) : Int × Nat := l[0]?.getD (0, 0)
def rowD (S : Sys) (ys : List Int) (s l : Int) : PyData := .tuple [plD (fst0 (placesIn S s ys)), .int l, .int (S.reg s l).num, plD (fst0 (placesIn S (S.reg s l).src ys)), .str (S.reg s l).word, .bool (S.reg s l).armed]
theorem dp_rows {K : PySem.W.Frag} {S : Sys} {ys : List Int} {s : Int} {H : Hp} {vs : List V} {ls : List Int} (p : Paired (RgAt S ys s H) vs ls) : DpAll K H vs (ls.map (rowD S ys s)) := by
  induction p with
  | nil => exact .nil
  | cons r _ ih =>
    obtain ⟨T, v1, v2, r1, r2, rfl, h2, h3, ⟨T1, rfl, p1⟩, h5, ⟨T2, rfl, p2⟩⟩ := r
    have e1 : fst0 (placesIn S s ys) = r1 := by unfold fst0; rw [h3]; rfl
    refine .cons ?_ ih
    unfold rowD
    rw [e1, show fst0 (placesIn S (S.reg s _).src ys) = r2 by unfold fst0; rw [h5]; rfl]
    exact .tup (SqT.of h2) (.cons (.tup (SqT.of p1) (.cons (.int _) (.cons (.int _) .nil))) (.cons (.int _) (.cons (.int _) (.cons (.tup (SqT.of p2) (.cons (.int _) (.cons (.int _) .nil))) (.cons (.str _) (.cons (.bl _) .nil))))))
theorem word_ok {wd : Str} (h : wd ∈ wordsL) : PyData.strOk wd = true := by
  unfold wordsL at h
  simp only [List.mem_cons, List.not_mem_nil, or_false] at h
  rcases h with z | z | z <;> rw [z] <;> decide +kernel
theorem rows_lay {S : Sys} {ys : List Int} {s : Int} : ∀ ls : List Int, (∀ l ∈ ls, (S.reg s l).word ∈ wordsL) → PyData.canLayAll0 (ls.map (rowD S ys s)) = true ∧ PyData.depthAll (ls.map (rowD S ys s)) ≤ 2
  | [], _ => ⟨rfl, Nat.zero_le _⟩
  | l :: ls, h => by
    obtain ⟨a, b⟩ := rows_lay (ys := ys) ls fun q hq => h q (List.mem_cons_of_mem _ hq)
    have h0 := word_ok (h l List.mem_cons_self)
    refine ⟨?_, ?_⟩
    · simp [rowD, plD, PyData.canLayAll0, PyData.canLay0, a, h0]
    · simp only [List.map_cons, rowD, plD, PyData.depthAll, PyData.depth]
      omega
theorem rows_shaped {S : Sys} {ys : List Int} {s : Int} {ls : List Int} (h : ∀ l ∈ ls, (S.reg s l).word ∈ wordsL) : SeqAt.shaped (.list (ls.map (rowD S ys s))) = true := by
  obtain ⟨a, b⟩ := rows_lay (ys := ys) ls h
  unfold SeqAt.shaped
  rw [Bool.and_eq_true]
  refine ⟨by simp only [PyData.canLay0]; exact a, decide_eq_true ?_⟩
  simp only [PyData.depth]
  have e : ∀ n : Nat, n ≤ 2 → n + 1 ≤ 3 := fun n h => by omega
  refine Nat.le_trans (e _ b) ?_
  decide
set_option maxHeartbeats 2000000
/-! list(d.values()), x in d.values(), of a dict with keys that are ints or texts -/
namespace DVa
theorem entry_ci : entryFor table "proto.contains_iter" = some Builtin.«proto.contains_iter» := entryFor_of_tree (by kernel_rfl)
theorem plain_ci : plainId "proto.contains_iter" = true := by decide +kernel
theorem nocon : typeLookup (.type "dict_values") "__contains__" = pure none := by rw [typeLookup_type, builtinLookup_eq_fast]; kernel_rfl
section
variable {prog : Program} {w : World} {A : Around} {I : Addr} {fp wr : List Addr} {n : Nat} {P : Nat → Value → Prop} {St : Nat → Heap → Prop} {R : Result → Shared → Prop}
theorem ci_loop (W : Walks prog w A.in1 I fp wr n P St) {x : Value} {e : Value → Bool} (us : List Value) (hP : ∀ i v, P i v → us[i]? = some v) (hl : us.length = n) (he : ∀ (s : Shared), ∀ u ∈ us, SeqAt.EqAt A.in1 s u x (e u)) :
    ∀ (k i : Nat) (s : Shared), n - i = k → i ≤ n → St i s.heap → (∀ h' tk, (∀ b o, b ∉ wr → s.heap.get? b = some o → h'.get? b = some o) → R (.ok (.ret (.bool ((us.drop i).any e)))) { s with heap := h', toks := tk }) →
      codeAny (model prog w) A (.builtin "proto.contains_iter" ⟨[.ref I, x], []⟩) R s := by
  intro k
  induction k with
  | zero =>
    intro i s hk hi hst hR
    have hin : i = n := by omega
    subst hin
    refine codeAny_builtin entry_ci ?_
    rw [Around.under_plainId plain_ci _]
    show wpAny _ A.in1 (pyNext (.ref I) >>= _) _ _ s
    refine wpAny_bind (W.done s _ _ hst fun h' tk hm => ?_)
    refine wpAny_bind (wpAny_rule ?_)
    have e0 : us.drop i = [] := List.drop_eq_nil_of_le (by omega)
    rw [e0] at hR
    exact wpAny_pure (hR h' tk hm)
  | succ k ih =>
    intro i s hk hi hst hR
    have hlt : i < n := by omega
    refine codeAny_builtin entry_ci ?_
    rw [Around.under_plainId plain_ci _]
    show wpAny _ A.in1 (pyNext (.ref I) >>= _) _ _ s
    refine wpAny_bind (W.item i s _ _ hlt hst fun v h' tk hv hst' hm => ?_)
    have hu := hP i v hv
    have hil : i < us.length := by omega
    have hd : us.drop i = v :: us.drop (i + 1) := by
      rw [List.drop_eq_getElem_cons hil]
      rw [List.getElem?_eq_getElem hil] at hu
      rw [Option.some.inj hu]
    rw [hd, List.any_cons] at hR
    refine wpAny_bind (he _ v (List.mem_of_getElem? hu) prog w _ _ ?_)
    cases hb : e v with
    | true =>
      rw [hb] at hR
      refine wpAny_bind (wpAny_rule ?_)
      exact wpAny_pure (hR h' tk hm)
    | false =>
      rw [hb, Bool.false_or] at hR
      refine wpAny_pure ⟨plainId_quiet plain_ci _, ih (i + 1) _ (by omega) hlt hst' fun h2 tk2 hm2 => hR h2 tk2 fun b o nb q => hm2 b o nb (hm b o nb q)⟩
end
section
variable {prog : Program} {w : World} {A : Around} {E : Value → Shared → Prop} {s : Shared} {K : Type} [DecidableEq K] {knd : KeyKind prog w K} {v d : Addr} {kvs : List (K × Value)} {ep : Nat}
theorem contains_values (hh : A.handled = none) (hv : s.heap.IsValuesView v d) (hm : s.heap.DictAt knd d kvs ep) {x : Value} {e : Value → Bool} (he : ∀ (s : Shared), ∀ u ∈ kvs.map (·.2), SeqAt.EqAt A.in1 s u x (e u)) {Q : Bool → Shared → Prop}
    (h : ∀ h' tk, (∀ b o, s.heap.get? b = some o → h'.get? b = some o) → Q ((kvs.map (·.2)).any e) { s with heap := h', toks := tk }) : wpAny (model prog w) A (contains (.ref v) x) Q E s := by
  have hT := hv.typeIs
  unfold contains
  refine wpAny_holding ?_
  rw [stdlibNamesSay?_of_typeIs hT]
  refine wpAny_bind (wpAny_specialOf hT nocon ?_)
  show wpAny _ A (if ((none : Option Value) == some Value.none) = true then _ else _) Q E s
  rw [if_neg (by decide)]
  refine wpAny_bind (wpAny_callSpecialUnlessNone?_none hT nocon ?_)
  refine wpAny_bind (wpAny_rule ?_)
  refine wpAny_bind (wpAny_tryCatch ?_)
  obtain ⟨oI, St, hit, W, st⟩ := (PySem.W.kdl_values (knd := knd) (kvs := kvs) (ep := ep) (r := v) (d := d)).iter A.in1 s hh ⟨hv, hm⟩
  refine wpAny_of_in1 (hit _ _ ?_)
  refine wpAny_bind (wpAny_runValue ?_)
  refine ci_loop W (kvs.map (·.2)) (fun i v ⟨k, e⟩ => by rw [List.getElem?_map, e]; rfl) (by rw [List.length_map]) he _ 0 _ rfl (Nat.zero_le _) st fun h' tk hk => ?_
  exact wpAny_pure (h h' tk fun b o q => hk b o (fun z => by rw [List.mem_singleton.mp z] at q; exact absurd (Heap.lt_size q) (Nat.lt_irrefl _)) (Heap.get?_push_of_some _ q))
end
/-- the view d.values() at p -/
def valuesO (p d : Addr) : HO := .ext fun h => h.IsValuesView p d
theorem valuesO_ok {P : Program} {w : World} {H : Hp} {h : Heap} {p d : Addr} (e : h.get? p = some { cls := .type "dict_values", data := .fields #[.ref d] }) : ObjOk P w H h p (valuesO p d) :=
  ⟨⟨_, e, rfl, rfl⟩, ⟨_, e⟩, fun h1 h2 x k => let ⟨o, ho, r⟩ := x; ⟨o, k o ho, r⟩⟩
section
variable {X : Cx}
def rVals : V → List V → Hp → VK → Prop := fun x xs H Q => ∃ (a : Addr) (kvs : List (Key × V)), x = .ref a ∧ xs = [] ∧ H a = some (.dK kvs) ∧ ∀ p, H p = none → Q (.ref p) (upd H p (valuesO p a))
theorem mt_values : MtR X "dict.values" rVals := by
  intro pins s σ H x xs v us Q I rx rxs h
  obtain ⟨a, kvs, rfl, rfl, ha, q⟩ := h
  cases rx
  cases rxs
  obtain ⟨z, hd, vs, rel, dd⟩ := dk_of I.hok ha
  refine call_meetsIn PySem.F.slot_dict_values dd.typeIs PySem.F.entry_dict_values (PySem.F.args_dict_values_1 _) (meets_dict_values (mixKind X.prog X.w) a hd) ⟨⟨vs, dd⟩, ?_⟩
  have hf : H s.heap.objs.size = none := I.hok.fresh (Nat.le_refl _)
  exact ⟨.ref s.heap.objs.size, upd H s.heap.objs.size (valuesO s.heap.objs.size a), I.laid (t' := s.toks) (fun b u e => Heap.get?_push_of_some _ e) (Nat.le_refl _) (valuesO_ok (Heap.get?_push_size _ rfl)), rfl, q _ hf⟩
theorem vals_kv {kvs : List (Key × V)} {vs : List (Key × Value)} (r : KV kvs vs) : Vals (kvs.map (·.2)) (vs.map (·.2)) := by
  unfold KV at r
  induction r with
  | nil => exact .nil
  | cons h _ ih => exact .cons h.2 ih
/-- list(e) of a view d.values() -/
def rListVals : List V → Hp → VK → Prop := fun xs H Q => ∃ (p a : Addr) (kvs : List (Key × V)), xs = [.ref p] ∧ H p = some (valuesO p a) ∧ H a = some (.dK kvs) ∧ ∀ q, H q = none → Q (.ref q) (upd H q (.lst (kvs.map (·.2))))
theorem call_listVals (hc : X.calm = true) : CallR X (.type "list") rListVals := by
  intro pins s σ H xs us Q I r h
  obtain ⟨p, a, kvs, rfl, hp, ha, q⟩ := h
  obtain rfl := Vals.ref1 r
  have view : s.heap.IsValuesView p a := (show ObjOk X.prog X.w H s.heap p (valuesO p a) from I.hok p _ hp).1
  obtain ⟨z, hd, vs, rel, dd⟩ := dk_of I.hok ha
  obtain ⟨ep, hat⟩ := dd.dictAt
  have hl : kvs.length = vs.length := Paired.length rel
  refine PySem.W.kdl_call (PySem.W.kdl_values (knd := mixKind X.prog X.w) (kvs := vs) (ep := ep) (r := p) (d := a)) (I.ok.hd hc) ⟨view, hat⟩ (by rw [← hl]; exact z) fun h' tk acc' c' hkeep hS hacc => ?_
  refine ⟨.ref s.heap.objs.size, upd H s.heap.objs.size (.lst (kvs.map (·.2))), I.laid hkeep (Nat.le_refl _) (show ObjOk X.prog X.w _ _ _ (.lst (kvs.map (·.2))) from ⟨?_, acc'.toList, c', ?_, ?_⟩), rfl, q _ (I.hok.fresh (Nat.le_refl _))⟩
  · rw [List.length_map]; exact z
  · have el : acc'.toList.length = acc'.size := by simp
    have e0 : acc'.toList = vs.map (·.2) := by
      refine List.ext_getElem? fun j => ?_
      cases hj : acc'[j]? with
      | none =>
        have : acc'.size ≤ j := by
          by_cases hlt : j < acc'.size
          · rw [Array.getElem?_eq_getElem hlt] at hj; cases hj
          · omega
        rw [Array.getElem?_toList, hj, List.getElem?_eq_none (by rw [List.length_map, ← hacc.1]; exact this)]
      | some y =>
        obtain ⟨k, e1⟩ := hacc.2 j y hj
        rw [Array.getElem?_toList, hj, List.getElem?_map, e1]
        rfl
    rw [e0]
    exact vals_kv rel
  · rw [Array.toArray_toList]; exact hS
/-- x in d.values(), flat values -/
def rInVals (neg : Bool) : R2 := fun x y H Q => ∃ (p a : Addr) (kvs : List (Key × V)), y = .ref p ∧ H p = some (valuesO p a) ∧ H a = some (.dK kvs) ∧ flatV x = true ∧ (kvs.map (·.2)).all flatV = true ∧ Q (.bl (if neg then !inV x (kvs.map (·.2)) else inV x (kvs.map (·.2)))) H
theorem op_in_vals (hc : X.calm = true) : OpR X (compareOp .In) (rInVals false) := by
  intro pins s σ H x y v u Q I rx ry h
  obtain ⟨p, a, kvs, rfl, hp, ha, fx, fs, q⟩ := h
  cases ry
  have view : s.heap.IsValuesView p a := (show ObjOk X.prog X.w H s.heap p (valuesO p a) from I.hok p _ hp).1
  obtain ⟨z, hd, vs, rel, dd⟩ := dk_of I.hok ha
  obtain ⟨ep, hat⟩ := dd.dictAt
  have r := vals_kv rel
  show wpAny _ _ (do return Value.bool (← contains (Value.ref p) v)) _ _ s
  refine wpAny_bind (contains_values (knd := mixKind X.prog X.w) (ep := ep) (e := eqU x) (I.ok.hd hc) view hat (fun s' u hu => mem_eqAt rx fx r fs u hu) fun h' tk hk => ?_)
  rw [any_eqU r fs]
  exact wpAny_pure ⟨.bl _, H, I.kept hk, rfl, q⟩
theorem op_notIn_vals (hc : X.calm = true) : OpR X (compareOp .NotIn) (rInVals true) := by
  intro pins s σ H x y v u Q I rx ry h
  obtain ⟨p, a, kvs, rfl, hp, ha, fx, fs, q⟩ := h
  cases ry
  have view : s.heap.IsValuesView p a := (show ObjOk X.prog X.w H s.heap p (valuesO p a) from I.hok p _ hp).1
  obtain ⟨z, hd, vs, rel, dd⟩ := dk_of I.hok ha
  obtain ⟨ep, hat⟩ := dd.dictAt
  have r := vals_kv rel
  show wpAny _ _ (do return Value.bool (!(← contains (Value.ref p) v))) _ _ s
  refine wpAny_bind (contains_values (knd := mixKind X.prog X.w) (ep := ep) (e := eqU x) (I.ok.hd hc) view hat (fun s' u hu => mem_eqAt rx fx r fs u hu) fun h' tk hk => ?_)
  rw [any_eqU r fs]
  exact wpAny_pure ⟨.bl _, H, I.kept hk, rfl, q⟩
end
end DVa

/-! tables of texts -/
def nm (t : Int) : Str := if t = 0 then "set" else if t = 1 then "source" else "other"
theorem nm_ne0 {t : Int} (h : t = 0 ∨ t = 1 ∨ t = 2) : nm t = "set" ↔ t = 0 := by
  rcases h with rfl | rfl | rfl <;> decide
theorem nm_ne1 {t : Int} (h : t = 0 ∨ t = 1 ∨ t = 2) : nm t = "source" ↔ t = 1 := by
  rcases h with rfl | rfl | rfl <;> decide
def cellAt (S : Sys) (p n : Int) : Option Int := if 0 ≤ n then ((S.tab p)[n.toNat]?).join else none
theorem cell_of {S : Sys} {p n t : Int} : cellAt S p n = some t ↔ 0 ≤ n ∧ (S.tab p)[n.toNat]? = some (some t) := by
  unfold cellAt
  by_cases h : 0 ≤ n
  · rw [if_pos h]
    cases (S.tab p)[n.toNat]? with
    | none => exact ⟨(fun z => by cases z), (fun z => by cases z.2)⟩
    | some x => exact ⟨(fun z => ⟨h, congrArg some z⟩), (fun z => Option.some.inj z.2)⟩
  · rw [if_neg h]
    exact ⟨(fun z => by cases z), (fun z => absurd z.1 h)⟩
theorem valV_drop {κ : Type} [DecidableEq κ] (k j : κ) : ∀ kvs : List (κ × V), valV (dropK kvs k) j = if j = k then none else valV kvs j
  | [] => by
    show (none : Option V) = if j = k then none else none
    split <;> rfl
  | p :: r => by
    have ih := valV_drop k j r
    unfold dropK at ih ⊢
    rw [List.filter_cons]
    by_cases e : p.1 = k
    · rw [if_neg (by simp [e]), ih]
      by_cases z : j = k
      · rw [if_pos z, if_pos z]
      · rw [if_neg z, if_neg z, valV_neg (fun y => z (y.symm.trans e))]
    · rw [if_pos (by simp [e])]
      by_cases y : p.1 = j
      · rw [valV_pos y, valV_pos y, if_neg (fun z => e (y.trans z))]
      · rw [valV_neg y, valV_neg y, ih]
theorem putK_keys {κ : Type} [DecidableEq κ] {kvs : List (κ × V)} {k : κ} {v : V} (h : (kvs.map (·.1)).Nodup) : ((putK kvs k v).map (·.1)).Nodup := by
  cases e : valV kvs k with
  | none => exact nd_putK v h e
  | some u =>
    have a : (kvs.any fun kv => decide (kv.1 = k)) = true := by rw [valV_any, e]; rfl
    unfold putK
    rw [if_pos a, List.map_map]
    have e2 : ((fun kv : κ × V => kv.1) ∘ fun kv => if kv.1 = k then (kv.1, v) else kv) = fun kv => kv.1 := funext fun kv => by
      show (if kv.1 = k then (kv.1, v) else kv).1 = kv.1
      split <;> rfl
    rw [e2]
    exact h
theorem putK_mem {κ : Type} [DecidableEq κ] {kvs : List (κ × V)} {k : κ} {v : V} {x : κ × V} (h : x ∈ putK kvs k v) : x.1 = k ∨ x ∈ kvs := by
  unfold putK at h
  split at h
  · obtain ⟨y, hy, rfl⟩ := List.mem_map.mp h
    by_cases z : y.1 = k
    · rw [if_pos z]
      exact .inl z
    · rw [if_neg z]
      exact .inr hy
  · rcases List.mem_append.mp h with z | z
    · exact .inr z
    · rw [List.mem_singleton.mp z]
      exact .inl rfl
theorem mem_val {κ : Type} [DecidableEq κ] {k : κ} {v : V} : ∀ {kvs : List (κ × V)}, (kvs.map (·.1)).Nodup → ((k, v) ∈ kvs ↔ valV kvs k = some v)
  | [], _ => ⟨(fun z => absurd z List.not_mem_nil), (fun z => by cases z)⟩
  | p :: r, h => by
    rw [List.map_cons, List.nodup_cons] at h
    have ih := mem_val (k := k) (v := v) h.2
    rw [List.mem_cons]
    by_cases e : p.1 = k
    · rw [valV_pos e]
      constructor
      · rintro (z | z)
        · rw [← z]
        · exact absurd (List.mem_map.mpr ⟨_, z, rfl⟩) (by rw [e] at h; exact h.1)
      · intro z
        exact .inl (Prod.ext e.symm (Option.some.inj z).symm)
    · rw [valV_neg e, ← ih]
      exact ⟨(fun z => z.resolve_left fun y => e (by rw [← y])), .inr⟩
/-- the law's table of a process -/
structure Tbl (S : Sys) (p : Int) (kvs : List (Key × V)) : Prop where
  nd : (kvs.map (·.1)).Nodup
  ky : ∀ kv ∈ kvs, ∃ n : Int, kv.1 = Sum.inl n
  vl : ∀ n : Int, valV kvs (Sum.inl n) = (cellAt S p n).map fun t => V.str (nm t)
theorem eqV_str (a b : Str) : eqV (.str a) (.str b) = decide (a = b) := rfl
theorem Tbl.flat {S : Sys} {p : Int} {kvs : List (Key × V)} (T : Tbl S p kvs) : (kvs.map (·.2)).all flatV = true := by
  rw [List.all_eq_true]
  intro v hv
  obtain ⟨kv, hkv, rfl⟩ := List.mem_map.mp hv
  obtain ⟨n, e⟩ := T.ky kv hkv
  have := (mem_val (k := Sum.inl n) (v := kv.2) T.nd).mp (by rw [← e]; exact hkv)
  rw [T.vl] at this
  cases h : cellAt S p n with
  | none => rw [h] at this; cases this
  | some t =>
    rw [h] at this
    rw [← Option.some.inj this]
    rfl
theorem Tbl.has {S : Sys} {p : Int} {kvs : List (Key × V)} (T : Tbl S p kvs) {t : Int} {z : Str} (hz : ∀ u, some u ∈ S.tab p → (nm u = z ↔ u = t)) : inV (.str z) (kvs.map (·.2)) = decide (some t ∈ S.tab p) := by
  unfold inV
  rw [Bool.eq_iff_iff, List.any_eq_true, decide_eq_true_eq]
  constructor
  · rintro ⟨v, hv, e⟩
    obtain ⟨kv, hkv, rfl⟩ := List.mem_map.mp hv
    obtain ⟨n, ek⟩ := T.ky kv hkv
    have := (mem_val (k := Sum.inl n) (v := kv.2) T.nd).mp (by rw [← ek]; exact hkv)
    rw [T.vl] at this
    cases h : cellAt S p n with
    | none => rw [h] at this; cases this
    | some u =>
      rw [h] at this
      rw [← Option.some.inj this, eqV_str] at e
      have hu := List.mem_of_getElem? (cell_of.mp h).2
      rw [← (hz u hu).mp (of_decide_eq_true e)]
      exact hu
  · intro h
    obtain ⟨n, hn⟩ := List.getElem?_of_mem h
    have hc : cellAt S p (n : Int) = some t := cell_of.mpr ⟨by omega, by rw [Int.toNat_natCast]; exact hn⟩
    have hv := T.vl (n : Int)
    rw [hc] at hv
    refine ⟨.str (nm t), List.mem_map.mpr ⟨(Sum.inl (n : Int), .str (nm t)), (mem_val T.nd).mpr hv, rfl⟩, ?_⟩
    rw [eqV_str]
    exact decide_eq_true ((hz t h).mpr rfl)
theorem Tbl.at1 {S : Sys} {p : Int} {kvs : List (Key × V)} (T : Tbl S p kvs) (h : ∀ u, some u ∈ S.tab p → (nm u = "source" ↔ u = 1)) (n : Int) : decide ((valV kvs (Sum.inl n)).getD .non = .str "source") = decide (cellAt S p n = some 1) := by
  rw [T.vl]
  cases hc : cellAt S p n with
  | none => rfl
  | some u =>
    have hu := List.mem_of_getElem? (cell_of.mp hc).2
    rw [decide_eq_decide]
    show V.str (nm u) = V.str "source" ↔ some u = some 1
    constructor
    · intro z
      rw [(h u hu).mp (V.str.inj z)]
    · intro z
      rw [(h u hu).mpr (Option.some.inj z)]
/-! the law's system -/
structure Gd (S : Sys) (lab : Int) : Prop where
  W : WF S
  pr : S.procs = [0, 1]
  s0 : ∀ s ∈ S.sets, s = 0
  t12 : ∀ t ∈ S.srcs, t = 1 ∨ t = 2
  en : ∀ s ∈ S.sets, S.ents s = if 1 ∈ S.srcs then [lab] else []
  rg : (S.reg 0 lab).src = 1 ∧ (S.reg 0 lab).num = 1
namespace Gd
variable {S : Sys} {lab : Int}
theorem things (G : Gd S lab) {p : Int} (hp : p ∈ S.procs) {u : Int} (h : some u ∈ S.tab p) : u = 0 ∨ u = 1 ∨ u = 2 := by
  rcases (G.W.kd u).mp ⟨p, hp, h⟩ with z | z
  · exact .inr (G.t12 u z)
  · exact .inl (G.s0 u z)
theorem isSet (G : Gd S lab) {p : Int} (hp : p ∈ S.procs) {u : Int} (h : some u ∈ S.tab p) : nm u = "set" ↔ u = 0 := nm_ne0 (G.things hp h)
theorem isSrc (G : Gd S lab) {p : Int} (hp : p ∈ S.procs) {u : Int} (h : some u ∈ S.tab p) : nm u = "source" ↔ u = 1 := nm_ne1 (G.things hp h)
theorem set0 (G : Gd S lab) : (0 ∈ S.sets) ↔ ∃ p ∈ S.procs, some 0 ∈ S.tab p := by
  rw [G.W.kd 0]
  exact ⟨.inr, fun z => z.resolve_left fun y => by rcases G.t12 _ y with e | e <;> cases e⟩
theorem src1 (G : Gd S lab) : (1 ∈ S.srcs) ↔ ∃ p ∈ S.procs, some 1 ∈ S.tab p := by
  rw [G.W.kd 1]
  exact ⟨.inl, fun z => z.resolve_right fun y => by cases G.s0 _ y⟩
/-- the same things, other tables -/
theorem tabs (G : Gd S lab) {S' : Sys} (W : WF S') (e0 : S'.procs = S.procs) (e1 : S'.srcs = S.srcs) (e2 : S'.sets = S.sets) (e3 : S'.ents = S.ents) (e4 : S'.reg = S.reg) : Gd S' lab :=
  ⟨W, e0.trans G.pr, (by rw [e2]; exact G.s0), (by rw [e1]; exact G.t12), (by rw [e2, e1, e3]; exact G.en), (by rw [e4]; exact G.rg)⟩
theorem close (G : Gd S lab) {p n t : Int} (M : Means S p n t) : Gd (closed S p n t) lab := by
  have W := G.W.close M
  have M2 := M
  unfold closed at W ⊢
  split
  · rename_i h
    rw [if_pos h] at W
    exact G.tabs W rfl rfl rfl rfl rfl
  · rename_i h
    rw [if_neg h] at W
    unfold ended at W ⊢
    by_cases ht : t ∈ (cleared S p n).sets
    · rw [if_pos ht] at W ⊢
      refine ⟨W, G.pr, fun s hs => G.s0 s (mem_without.mp hs).1, G.t12, fun s hs => ?_, G.rg⟩
      obtain ⟨h1, h2⟩ := mem_without.mp hs
      exact absurd ((G.s0 s h1).trans (G.s0 t ht).symm) h2
    · rw [if_neg ht] at W ⊢
      refine ⟨W, G.pr, G.s0, fun s hs => G.t12 s (mem_without.mp hs).1, fun s hs => ?_, G.rg⟩
      have hs : s ∈ S.sets := hs
      obtain rfl := G.s0 s hs
      have en := G.en 0 hs
      show (if (0 : Int) ∈ S.sets then dropAll (S.ents 0) (ofSrc (S.reg 0) t (S.ents 0)) else S.ents 0) = if 1 ∈ without t S.srcs then [lab] else []
      rw [if_pos hs, en]
      by_cases h1 : 1 ∈ S.srcs
      · rw [if_pos h1]
        by_cases e : t = 1
        · subst e
          rw [if_neg (fun z => (mem_without.mp z).2 rfl)]
          unfold ofSrc
          rw [List.filter_cons, if_pos (decide_eq_true G.rg.1), List.filter_nil]
          show without lab [lab] = []
          unfold without
          rw [List.filter_cons, if_neg (by simp), List.filter_nil]
        · rw [if_pos (mem_without.mpr ⟨h1, fun z => e z.symm⟩)]
          unfold ofSrc
          rw [List.filter_cons, if_neg (by rw [G.rg.1]; simp; exact fun z => e z.symm), List.filter_nil]
          rfl
      · rw [if_neg h1, if_neg (fun z => h1 (mem_without.mp z).1)]
        rfl
theorem paste (G : Gd S lab) {p n t : Int} {m : Nat} (M : Means S p n t) (hm : m < (S.tab p).length) (hN : (S.tab p).length = S.N.toNat) : Gd (pasted S p m t) lab := by
  have W := G.W.pasted M hm
  unfold pasted at W ⊢
  split
  · rename_i u hu
    rw [hu] at W
    dsimp only at W
    by_cases e : u = t
    · rw [if_pos e]
      exact G
    · rw [if_neg e] at W ⊢
      have Mu : Means S p (m : Int) u := ⟨M.pr, by omega, by have := G.W.N3; omega, by rw [Int.toNat_natCast]; exact hu⟩
      exact (G.close Mu).tabs W rfl rfl rfl rfl rfl
  · rename_i hu
    cases hx : (S.tab p)[m]? with
    | none => 
      rw [hx] at W
      exact G.tabs W rfl rfl rfl rfl rfl
    | some y =>
      rw [hx] at W
      cases y with
      | none => exact G.tabs W rfl rfl rfl rfl rfl
      | some u => exact absurd hx (hu u)
end Gd
/-! the tables behind a closing and a copy -/
theorem cell_set {S S' : Sys} {p q n j : Int} {x : Option Int} (n0 : 0 ≤ n) (hl : n.toNat < (S.tab p).length) (h : S'.tab q = if q = p then (S.tab p).set n.toNat x else S.tab q) : cellAt S' q j = if q = p ∧ j = n then x else cellAt S q j := by
  unfold cellAt
  rw [h]
  by_cases e : q = p
  · subst e
    rw [if_pos rfl]
    by_cases j0 : 0 ≤ j
    · rw [if_pos j0, if_pos j0, List.getElem?_set]
      by_cases z : j = n
      · subst z
        rw [if_pos rfl, if_pos hl, if_pos ⟨rfl, rfl⟩]
        rfl
      · rw [if_neg (by omega), if_neg (fun y => z y.2)]
    · rw [if_neg j0, if_neg j0, if_neg (fun y => by omega)]
  · rw [if_neg e, if_neg (show ¬ (q = p ∧ j = n) from fun y => e y.1)]
theorem pasted_tab {S : Sys} {p q t : Int} {m : Nat} : (pasted S p m t).tab q = if q = p then (S.tab p).set m (some t) else S.tab q := by
  unfold pasted
  split
  · rename_i u hu
    by_cases e : u = t
    · rw [if_pos e]
      subst e
      by_cases z : q = p
      · rw [if_pos z, z]
        refine List.ext_getElem? fun i => ?_
        rw [List.getElem?_set]
        by_cases y : m = i
        · subst y
          rw [if_pos rfl, if_pos (List.getElem?_eq_some_iff.mp hu).1, hu]
        · rw [if_neg y]
      · rw [if_neg z]
    · rw [if_neg e]
      show (if q = p then ((closed S p (m : Int) u).tab p).set m (some t) else (closed S p (m : Int) u).tab q) = _
      rw [closed_clear_tab, closed_clear_tab, cleared_tab, cleared_tab, if_pos rfl]
      by_cases z : q = p
      · rw [if_pos z, if_pos z, List.set_set]
      · rw [if_neg z, if_neg z, if_neg z]
  · rfl
theorem Tbl.close {S : Sys} {p q n t : Int} {kvs : List (Key × V)} (T : Tbl S q kvs) (n0 : 0 ≤ n) (hl : n.toNat < (S.tab p).length) : Tbl (closed S p n t) q (if q = p then dropK kvs (Sum.inl n) else kvs) := by
  have hc : ∀ j, cellAt (closed S p n t) q j = if q = p ∧ j = n then none else cellAt S q j := fun j => cell_set n0 hl (by rw [closed_clear_tab]; rfl)
  by_cases e : q = p
  · rw [if_pos e]
    refine ⟨nd_dropK T.nd, fun kv h => T.ky kv (dropK_mem h), fun j => ?_⟩
    rw [valV_drop, hc, T.vl]
    by_cases z : j = n
    · rw [if_pos (by rw [z]), if_pos ⟨e, z⟩]
      rfl
    · rw [if_neg (fun y => z (Sum.inl.inj y)), if_neg (fun y => z y.2)]
  · rw [if_neg e]
    refine ⟨T.nd, T.ky, fun j => ?_⟩
    rw [hc, if_neg (fun y => e y.1), T.vl]
theorem Tbl.paste {S : Sys} {p q t : Int} {m : Nat} {kvs : List (Key × V)} (T : Tbl S q kvs) (hl : m < (S.tab p).length) : Tbl (pasted S p m t) q (if q = p then putK kvs (Sum.inl (m : Int)) (.str (nm t)) else kvs) := by
  have hc : ∀ j, cellAt (pasted S p m t) q j = if q = p ∧ j = (m : Int) then some t else cellAt S q j := fun j => cell_set (by omega) (by rw [Int.toNat_natCast]; exact hl) (by rw [pasted_tab, Int.toNat_natCast])
  by_cases e : q = p
  · rw [if_pos e]
    refine ⟨putK_keys T.nd, fun kv h => ?_, fun j => ?_⟩
    · rcases putK_mem h with z | z
      · exact ⟨_, z⟩
      · exact T.ky kv z
    · rw [valV_put, hc, T.vl]
      by_cases z : j = (m : Int)
      · rw [if_pos (by rw [z]), if_pos ⟨e, z⟩]
        rfl
      · rw [if_neg (fun y => z (Sum.inl.inj y)), if_neg (fun y => z y.2)]
  · rw [if_neg e]
    refine ⟨T.nd, T.ky, fun j => ?_⟩
    rw [hc, if_neg (fun y => e y.1), T.vl]

structure LawTx (mg : Str → Option Value) : Prop where
  range : mg "range" = none
  max : mg "max" = none
  min : mg "min" = none
  len : mg "len" = none
  list : mg "list" = none
  dict : mg "dict" = none
section
variable {K : PySem.W.Frag} {H : Hp} {a b : Addr} {Q : VK}
theorem q_eqNilI {l : List Int} (h1 : H a = some (.lst (l.map V.int))) (h2 : H b = some (.lst [])) (k : Q (.bl l.isEmpty) H) : rEqD K (.ref a) (.ref b) H Q := by
  refine ⟨_, _, .lst (SqL.of h1) (dp_ints l), .lst (SqL.of h2) .nil, ints_shaped l, rfl, ?_⟩
  cases l <;> exact k
theorem q_neNilI {l : List Int} (h1 : H a = some (.lst (l.map V.int))) (h2 : H b = some (.lst [])) (k : Q (.bl (!l.isEmpty)) H) : rNeD K (.ref a) (.ref b) H Q := by
  refine ⟨_, _, .lst (SqL.of h1) (dp_ints l), .lst (SqL.of h2) .nil, ints_shaped l, rfl, ?_⟩
  cases l <;> exact k
end
/-- the law's tables at T: a dict for each of the processes 0 and 1 -/
structure DTs (H : Hp) (T : Addr) (al : Int → Addr) (kv : Int → List (Key × V)) : Prop where
  top : Rd H T (.dK (entKV [0, 1] al))
  at_ : ∀ p ∈ ([0, 1] : List Int), H (al p) = some (.dK (kv p))
  ne : ∀ p ∈ ([0, 1] : List Int), al p ≠ T
  short : ∀ p ∈ ([0, 1] : List Int), (kv p).length ≤ 1000
  flat : ∀ p ∈ ([0, 1] : List Int), ((kv p).map (·.2)).all flatV = true
section
variable {H H' : Hp} {T : Addr} {al : Int → Addr} {kv : Int → List (Key × V)}
theorem rdSame {a : Addr} {u : HO} (r : Rd H a u) (s : ∀ o, H a = some o → H' a = some o) : Rd H' a u := r.imp (s _) fun ⟨o, e⟩ => ⟨o, s _ e⟩
theorem DTs.keep (D : DTs H T al kv) (s : ∀ b o, (b = T ∨ ∃ p ∈ ([0, 1] : List Int), b = al p) → H b = some o → H' b = some o) : DTs H' T al kv := ⟨rdSame D.top fun o e => s _ _ (.inl rfl) e, fun p hp => s _ _ (.inr ⟨p, hp, rfl⟩) (D.at_ p hp), D.ne, D.short, D.flat⟩
theorem DTs.same (D : DTs H T al kv) (s : Same H H') : DTs H' T al kv := D.keep fun b o _ e => s b o e
theorem DTs.get (D : DTs H T al kv) {p : Int} (hp : p ∈ ([0, 1] : List Int)) : DGet H T (.int p) (some (.ref (al p))) := by
  have hv : valV (entKV [0, 1] al) (Sum.inl p) = some (.ref (al p)) := by rw [ent_val, if_pos hp]
  exact .inl ⟨_, Sum.inl p, D.top, rfl, hv.symm⟩
theorem DTs.lock (D : DTs H T al kv) {od : Obj} : DTs (upd H T (.frz od (.dK (entKV [0, 1] al)))) T al kv := ⟨.inr ⟨od, upd_same⟩, fun p hp => (upd_ne (D.ne p hp)).trans (D.at_ p hp), D.ne, D.short, D.flat⟩
theorem two_at {i : Nat} {kk : L2.Key} {vv : V} (e : (entKV [0, 1] al)[i]? = some (kk, vv)) : ((i : Int) ∈ ([0, 1] : List Int)) ∧ kk = Sum.inl (i : Int) := by
  match i, e with
  | 0, e => exact ⟨by decide, (congrArg Prod.fst (Option.some.inj e)).symm⟩
  | 1, e => exact ⟨by decide, (congrArg Prod.fst (Option.some.inj e)).symm⟩
theorem DTs.ty {K : PySem.W.Frag} (D : DTs H T al kv) {p : Int} (hp : p ∈ ([0, 1] : List Int)) : tyV K "dict" (.ref (al p)) H := .inr (.inr (.inl ⟨rfl, .inl ⟨_, D.at_ p hp⟩⟩))
end
def accL (kv : Int → List (Key × V)) : Nat → List V
  | 0 => []
  | 1 => (kv 0).map (·.2)
  | _ => (kv 0).map (·.2) ++ (kv 1).map (·.2)
def hasB (kv : List (Key × V)) (z : Str) : Bool := inV (.str z) (kv.map (·.2))
def bothL (kv : Int → List (Key × V)) : List Int := ([0, 1] : List Int).filter fun p => hasB (kv p) "set" && hasB (kv p) "source"
def reachL (kv : Int → List (Key × V)) (n : Int) : List Int := (bothL kv).filter fun p => decide ((valV (kv p) (Sum.inl n)).getD .non = V.str "source")
def standB (kv : Int → List (Key × V)) : Bool := inV (.str "set") ((kv 0).map (·.2) ++ (kv 1).map (·.2)) && inV (.str "source") ((kv 0).map (·.2) ++ (kv 1).map (·.2))
section
variable {P : Program} {w : World} {K : PySem.W.Frag} {mg : Str → Option Value} {base : Heap} {C : Cs}
def spDue : Sp := fun vs H Q _ => ∃ (T : Addr) (al : Int → Addr) (kv : Int → List (Key × V)) (n : Int), vs = [.ref T, .int n] ∧ H T = some (.dK (entKV [0, 1] al)) ∧ DTs H T al kv ∧
  ∀ H' r, Same H H' → H r = none → H' r = some (.lst [.bl (standB kv), .bl (!(reachL kv n).isEmpty), .bl (bothL kv).isEmpty]) → Q (.ref r) H'
abbrev nDue : List Str := ["_law_tables", "_law_n", "_law_held", "_law_p", "_law_both", "_law_reached"]
theorem scDue : FnScope nDue ["_law_tables", "_law_n"] (defScope sDue) := ⟨rfl, rfl, rfl, by decide +kernel, rfl, by decide +kernel, by decide +kernel⟩
theorem okDue {f : Addr} {fd : FuncData} (F : Fun K "_law_due" "_law_due" sDue f fd) (X : LawTx mg) : FnOk P w K mg base CX0 1 f fd ["_law_tables", "_law_n"] spDue := by
  refine F.ok scDue (fun vs H Q E h => ?_) (fun cdv A outer s H vs Q E hr h => ?_)
  · obtain ⟨_, _, _, _, rfl, _⟩ := h
    rfl
  · obtain ⟨T, al, kv, n, rfl, hT, D0, k⟩ := h
    have hu := hr.units
    have hu1 := hu_of hr
    refine ⟨_, pss_cut (ps_set (i := 2) scDue.nd rfl (Or.inl rfl) (pe_lst pa_nil))
      (pss_cut (ps_lock (ps_for PassesOwn.never rfl (pi_keys (pv 0)) (pg_name (i := 3) scDue.nd rfl (Or.inl rfl))
        (pss_one (ps_expr (pe_bm PySem.F.plainAttrs_list PySem.F.slot_list_extend PySem.F.type_list_extend mt_extend (pv 2) (pa_cons (pe_callTy (DVa.call_listVals rfl) (by rfl) X.list (by decide +kernel) (pa_cons (pe_bm0 PySem.F.plainAttrs_dict PySem.F.slot_dict_values PySem.F.type_dict_values DVa.mt_values (pe_dget hu1 (pv 0) (pv 3) (fun _ _ => rfl))) pa_nil)) pa_nil))))))
      (pss_cut (ps_lock (ps_setLc (i := 4) (own := [("_law_p", 3)]) (g := gName 3)
          (tt := tAnd (tTest (tOp (DVa.rInVals false) (tC (.str "set")) (tBM0 K "dict" DVa.rVals (tDGet (tVar 0) (tVar 3))))) (tTest (tOp (DVa.rInVals false) (tC (.str "source")) (tBM0 K "dict" DVa.rVals (tDGet (tVar 0) (tVar 3))))))
          (te := tVar 3) rfl scDue.nd rfl rfl (sw_true rfl rfl rfl (by decide +kernel)) (pi_keys (pv 0)) (blkOk_by (N := nDue) (sc := defScope sDue) (by decide +kernel)) (fun _ _ _ _ _ => pg_name (i := 3) scDue.nd rfl (Or.inl rfl))
          (fun _ _ _ _ _ => pts_one (PW.pt (pw_and (pt_cmpR (DVa.op_in_vals rfl) pe_str (pe_bm0 PySem.F.plainAttrs_dict PySem.F.slot_dict_values PySem.F.type_dict_values DVa.mt_values (pe_dget hu1 (pv 0) (pv 3) (fun _ _ => rfl))) (by rfl)) (pw_and1 (pt_cmpR (DVa.op_in_vals rfl) pe_str (pe_bm0 PySem.F.plainAttrs_dict PySem.F.slot_dict_values PySem.F.type_dict_values DVa.mt_values (pe_dget hu1 (pv 0) (pv 3) (fun _ _ => rfl))) (by rfl))))))
          (fun _ _ _ _ _ => pv 3)))
      (pss_cut (ps_setLc (i := 5) (own := [("_law_p", 3)]) (g := gName 3)
          (tt := tTest (tOp rEq (tDGet1 (tDGet (tVar 0) (tVar 3)) (tVar 1)) (tC (.str "source"))))
          (te := tVar 3) rfl scDue.nd rfl rfl (sw_true rfl rfl rfl (by decide +kernel)) (pi_list (pv 4)) (blkOk_by (N := nDue) (sc := defScope sDue) (by decide +kernel)) (fun _ _ _ _ _ => pg_name (i := 3) scDue.nd rfl (Or.inl rfl))
          (fun _ _ _ _ _ => pts_one (pt_cmpR op_eq (pe_dget1 hu1 (pe_dget hu1 (pv 0) (pv 3) (fun _ _ => rfl)) (pv 1) ⟨rfl, rfl, rfl, rfl⟩) pe_str (nomark _)))
          (fun _ _ _ _ _ => pv 3))
      (pss_one (ps_ret (pe_lst (pa_cons (pe_and (pe_cmpR op_in_seq pe_str (pv 2) (by rfl)) (pe_one (pe_cmpR op_in_seq pe_str (pv 2) (by rfl)))) (pa_cons (pe_cmpR (op_neD hu) (pv 5) (pe_lst pa_nil) (nomark _)) (pa_cons (pe_cmpR (op_eqD hu) (pv 4) (pe_lst pa_nil) (nomark _)) pa_nil))))))))), ?_⟩
    have m0 : (0 : Int) ∈ ([0, 1] : List Int) := by decide
    have m1 : (1 : Int) ∈ ([0, 1] : List Int) := by decide
    refine ⟨fun σ' H' => ∃ h, σ' = [some (.ref T), some (.int n), some (.ref h), none, none, none] ∧ Same H H' ∧ H h = none ∧ H' h = some (.lst []), ?_, ?_⟩
    · walk_at "wn"
      refine ⟨Nat.zero_le _, fun h hh => ?_⟩
      walk_at "wn"
      exact ⟨h, rfl, Same.new' hh, hh, upd_same⟩
    rintro σ' H1 ⟨h, rfl, s1, hn, hh⟩
    have nhT : h ≠ T := fun z => by rw [z, hT] at hn; cases hn
    have nhal : ∀ p ∈ ([0, 1] : List Int), h ≠ al p := fun p hp z => by rw [z, D0.at_ p hp] at hn; cases hn
    refine ⟨fun σ' H' => ∃ u3, σ' = [some (.ref T), some (.int n), some (.ref h), u3, none, none] ∧ Same H H' ∧ H' h = some (.lst (accL kv 2)), ?_, ?_⟩
    · refine ⟨T, _, s1 _ _ hT, trivial, fun od => ?_⟩
      have DL := (D0.same s1).lock (od := od)
      have hL : ∀ b, b ≠ T → upd H1 T (.frz od (.dK (entKV [0, 1] al))) b = H1 b := fun b n => upd_ne n
      have hLT : upd H1 T (.frz od (.dK (entKV [0, 1] al))) T = some (.frz od (.dK (entKV [0, 1] al))) := upd_same
      generalize upd H1 T (.frz od (.dK (entKV [0, 1] al))) = HL at DL hL hLT ⊢
      refine ⟨_, rfl, T, od, rfl, .inl ⟨_, hLT, ?_⟩⟩
      refine for_it walk_keys (fun i σ' H' => ∃ u3, σ' = [some (.ref T), some (.int n), some (.ref h), u3, none, none] ∧ (∀ b o, b ≠ h → HL b = some o → H' b = some o) ∧ H' h = some (.lst (accL kv i))) ⟨_, rfl, fun b o _ e => e, (hL _ nhT).trans hh⟩ (fun i σ' H' _ ⟨_, _, sm, _⟩ => sm _ _ (Ne.symm nhT) hLT) ?_ ?_
      · rintro i y0 σ' H2 H3 hi ⟨u3, rfl, sm, hh2⟩ ⟨rfl, kk, vv, ek, rfl⟩
        obtain ⟨hp, rfl⟩ := two_at ek
        have D2 : DTs H3 T al kv := DL.keep fun b o hb e => sm b o (fun z => by
          rcases hb with y | ⟨p, hp, y⟩
          · exact nhT (z.symm.trans y)
          · exact nhal p hp (z.symm.trans y)) e
        walk_at "wn"
        refine ⟨_, rfl, _, rfl, T, _, rfl, D2.get hp, ?_⟩
        refine ⟨D2.ty hp, ?_⟩
        refine ⟨al i, kv i, rfl, rfl, D2.at_ i hp, fun v hv => ?_⟩
        have s3 := Same.new' (o := DVa.valuesO v (al i)) hv
        walk_at "wn"
        refine ⟨v, al i, kv i, rfl, upd_same, s3 _ _ (D2.at_ i hp), fun q hq => ?_⟩
        have s4 := s3.trans (Same.new' (o := .lst ((kv i).map (·.2))) hq)
        walk_at "wn"
        have sz : ∀ p ∈ ([0, 1] : List Int), ((kv p).map (·.2)).length ≤ 1000 := fun p hp => by rw [List.length_map]; exact D0.short p hp
        have la : (accL kv i).length ≤ 2000 := by
          have a := sz 0 m0
          have b := sz 1 m1
          match i with
          | 0 => exact Nat.zero_le _
          | 1 => exact Nat.le_trans a (by decide)
          | _ + 2 =>
            show ((kv 0).map (·.2) ++ (kv 1).map (·.2)).length ≤ 2000
            rw [List.length_append]
            omega
        refine ⟨h, q, _, _, rfl, rfl, s4 _ _ hh2, upd_same, by rw [sizeLine_eq]; have := sz i hp; omega, ?_⟩
        walk_at "wn"
        refine ⟨_, rfl, fun b o nb e => ?_, ?_⟩
        · rw [upd_ne nb]
          exact s4 _ _ (sm b o nb e)
        · rw [upd_same]
          match i, hp with
          | 0, _ => rfl
          | 1, _ => rfl
          | _ + 2, hp =>
            simp only [List.mem_cons, List.not_mem_nil, or_false] at hp
            omega
      · rintro σ' H2 ⟨u3, rfl, sm, hh2⟩
        have eT := sm _ _ (Ne.symm nhT) hLT
        refine ⟨eT, _, rfl, fun b o e => ?_, (upd_ne nhT).trans hh2⟩
        by_cases z : b = T
        · rw [z, upd_same, ← hT, ← z, e]
        · rw [upd_ne z]
          have nb : b ≠ h := fun y => by rw [y, hn] at e; cases e
          exact sm _ _ nb ((hL b z).trans (s1 _ _ e))
    rintro σ' H2 ⟨u3, rfl, s2, hh2⟩
    refine ⟨fun σ' H' => ∃ b, σ' = [some (.ref T), some (.int n), some (.ref h), u3, some (.ref b), none] ∧ Same H H' ∧ H' h = some (.lst (accL kv 2)) ∧ H' b = some (.lst ((bothL kv).map V.int)), ?_, ?_⟩
    · refine ⟨T, _, s2 _ _ hT, trivial, fun od => ?_⟩
      have DL := (D0.same s2).lock (od := od)
      have hL : ∀ b, b ≠ T → upd H2 T (.frz od (.dK (entKV [0, 1] al))) b = H2 b := fun b n => upd_ne n
      have hLT : upd H2 T (.frz od (.dK (entKV [0, 1] al))) T = some (.frz od (.dK (entKV [0, 1] al))) := upd_same
      generalize upd H2 T (.frz od (.dK (entKV [0, 1] al))) = HL at DL hL hLT ⊢
      refine ⟨_, rfl, T, od, rfl, .inl ⟨_, hLT, fun D hD => ?_⟩⟩
      refine lc_it walk_keys (fun i H' => Same HL H' ∧ H' D = some (.lst (((([0, 1] : List Int).take i).filter fun p => hasB (kv p) "set" && hasB (kv p) "source").map V.int))) ⟨Same.new' hD, upd_same⟩ (fun i H' _ ⟨sm, _⟩ => sm _ _ hLT) ?_ ?_
      · rintro i y0 H3 H4 hi ⟨sm, hd⟩ ⟨rfl, kk, vv, ek, rfl⟩
        obtain ⟨hp, rfl⟩ := two_at ek
        have e2 : ([0, 1] : List Int).take (i + 1) = ([0, 1] : List Int).take i ++ [(i : Int)] := by
          match i, hp with
          | 0, _ => rfl
          | 1, _ => rfl
          | _ + 2, hp =>
            simp only [List.mem_cons, List.not_mem_nil, or_false] at hp
            omega
        have D2 := DL.same sm
        rw [e2, List.filter_append, List.filter_cons, List.filter_nil, List.map_append]
        refine ⟨by simp [wipe, List.set_set], ?_⟩
        walk_at "wn"
        refine ⟨_, rfl, _, rfl, T, _, rfl, D2.get hp, ?_⟩
        refine ⟨D2.ty hp, ?_⟩
        refine ⟨al i, kv i, rfl, rfl, D2.at_ i hp, fun v hv => ?_⟩
        have s3 := Same.new' (o := DVa.valuesO v (al i)) hv
        have D3 := D2.same s3
        refine ⟨v, al i, kv i, rfl, upd_same, D3.at_ i hp, rfl, D0.flat i hp, ?_⟩
        have hd3 := s3 _ _ hd
        show ∃ b, V.bl (hasB (kv i) "set") = .bl b ∧ _
        cases h1 : hasB (kv i) "set" with
        | false =>
          refine ⟨_, rfl, ?_⟩
          refine iteF ?_
          refine iteF ?_
          rw [Bool.false_and, if_neg (by decide), List.map_nil, List.append_nil]
          exact ⟨sm.trans s3, hd3⟩
        | true =>
          refine ⟨_, rfl, ?_⟩
          refine iteT ?_
          walk_at "wn"
          refine ⟨_, rfl, _, rfl, T, _, rfl, D3.get hp, ?_⟩
          refine ⟨D3.ty hp, ?_⟩
          refine ⟨al i, kv i, rfl, rfl, D3.at_ i hp, fun v2 hv2 => ?_⟩
          have s4 := Same.new' (o := DVa.valuesO v2 (al i)) hv2
          refine ⟨v2, al i, kv i, rfl, upd_same, (D3.same s4).at_ i hp, rfl, D0.flat i hp, ?_⟩
          have hd4 := s4 _ _ hd3
          have s5 := (sm.trans s3).trans s4
          show ∃ b, V.bl (hasB (kv i) "source") = .bl b ∧ _
          cases h2 : hasB (kv i) "source" with
          | false =>
            refine ⟨_, rfl, ?_⟩
            refine iteF ?_
            rw [Bool.and_false, if_neg (by decide), List.map_nil, List.append_nil]
            exact ⟨s5, hd4⟩
          | true =>
            refine ⟨_, rfl, ?_⟩
            refine iteT ?_
            walk_at "wn"
            rw [Bool.and_true, if_pos rfl]
            refine ⟨_, hd4, ?_, fun b o e => ?_, by rw [upd_same]; rfl⟩
            · have h3 := List.length_filter_le (fun p => hasB (kv p) "set" && hasB (kv p) "source") (([0, 1] : List Int).take i)
              have h4 : (([0, 1] : List Int).take i).length ≤ 2 := by rw [List.length_take]; exact Nat.min_le_right _ _
              rw [List.length_map, sizeLine_eq]
              omega
            · rw [upd_ne (ne_of_none e hD)]
              exact s5 _ _ e
      · rintro H3 ⟨sm, hd⟩
        have eT := sm _ _ hLT
        have nDT : D ≠ T := fun z => by rw [z, hLT] at hD; cases hD
        have nDh : D ≠ h := fun z => by rw [z, hL _ nhT, hh2] at hD; cases hD
        refine ⟨eT, D, rfl, fun b o e => ?_, ?_, (upd_ne nDT).trans hd⟩
        · by_cases z : b = T
          · rw [z, upd_same, ← hT, ← z, e]
          · rw [upd_ne z]
            exact sm _ _ ((hL b z).trans (s2 _ _ e))
        · rw [upd_ne nhT]
          exact sm _ _ ((hL _ nhT).trans hh2)
    rintro σ' H3 ⟨b, rfl, s3, hh3, hb3⟩
    refine ⟨fun σ' H' => ∃ r, σ' = [some (.ref T), some (.int n), some (.ref h), u3, some (.ref b), some (.ref r)] ∧ Same H H' ∧ H' h = some (.lst (accL kv 2)) ∧ H' b = some (.lst ((bothL kv).map V.int)) ∧ H' r = some (.lst ((reachL kv n).map V.int)), ?_, ?_⟩
    · refine ⟨_, rfl, b, rfl, ⟨_, SqL.of hb3⟩, fun D hD => ?_⟩
      refine lc_it (walk_list (K := K) (xs := (bothL kv).map V.int)) (fun i H' => Same H3 H' ∧ H' D = some (.lst ((((bothL kv).take i).filter fun p => decide ((valV (kv p) (Sum.inl n)).getD .non = V.str "source")).map V.int))) ⟨Same.new' hD, upd_same⟩ (fun i H' _ ⟨sm, _⟩ => SqL.of (sm _ _ hb3)) ?_ ?_
      · rintro i y0 H4 H5 hi ⟨sm, hd⟩ ⟨rfl, ex⟩
        rw [List.getElem?_map] at ex
        cases et : (bothL kv)[i]? with
        | none => rw [et] at ex; cases ex
        | some p =>
        rw [et] at ex
        cases ex
        have hp : p ∈ ([0, 1] : List Int) := (List.mem_filter.mp (List.mem_of_getElem? et)).1
        have D2 := D0.same (s3.trans sm)
        rw [List.take_add_one, et, Option.toList_some, List.filter_append, List.filter_cons, List.filter_nil, List.map_append]
        refine ⟨by simp [wipe, List.set_set], ?_⟩
        walk_at "wn"
        refine ⟨_, rfl, _, rfl, T, _, rfl, D2.get hp, ?_⟩
        refine ⟨al p, rfl, .inl ⟨_, .inl (D2.at_ p hp)⟩, _, rfl, valV (kv p) (Sum.inl n), DGet.k (k := Sum.inl n) (D2.at_ p hp), ?_⟩
        walk_at "wn"
        refine ⟨?_, ?_⟩
        · cases e3 : valV (kv p) (Sum.inl n) with
          | none => rfl
          | some v =>
            have := List.all_eq_true.mp (D0.flat p hp) v (by
              unfold valV at e3
              obtain ⟨kx, h1, h2⟩ := Option.map_eq_some_iff.mp e3
              exact List.mem_map.mpr ⟨kx, List.mem_of_find?_eq_some h1, h2⟩)
            cases v with
            | ref a => cases this
            | non => rfl
            | str z => rfl
            | int z => rfl
            | bl z => rfl
            | _ => cases this
        refine ⟨_, rfl, ?_⟩
        cases h1 : decide ((valV (kv p) (Sum.inl n)).getD .non = V.str "source") with
        | false =>
          refine iteF ?_
          rw [if_neg (by decide), List.map_nil, List.append_nil]
          exact ⟨sm, hd⟩
        | true =>
          refine iteT ?_
          walk_at "wn"
          rw [if_pos rfl]
          refine ⟨_, hd, ?_, fun b o e => ?_, by rw [upd_same]; rfl⟩
          · have h3 := List.length_filter_le (fun p => decide ((valV (kv p) (Sum.inl n)).getD .non = V.str "source")) ((bothL kv).take i)
            have h4 : ((bothL kv).take i).length ≤ (bothL kv).length := by rw [List.length_take]; exact Nat.min_le_right _ _
            have h5 : (bothL kv).length ≤ 2 := List.length_filter_le _ _
            rw [List.length_map, sizeLine_eq]
            omega
          · rw [upd_ne (ne_of_none e hD)]
            exact sm _ _ e
      · rintro H4 ⟨sm, hd⟩
        rw [List.length_map, List.take_length] at hd
        exact ⟨D, rfl, s3.trans sm, sm _ _ hh3, sm _ _ hb3, hd⟩
    rintro σ' H4 ⟨r, rfl, s4, hh4, hb4, hr4⟩
    have fa : (accL kv 2).all flatV = true := by
      show ((kv 0).map (·.2) ++ (kv 1).map (·.2)).all flatV = true
      rw [List.all_append, D0.flat 0 m0, D0.flat 1 m1]
      rfl
    have fin : ∀ bb : Bool, bb = standB kv → ∀ L1 L2 : Addr, ∀ H5, Same H4 H5 → H5 L1 = some (.lst []) → True := fun _ _ _ _ _ _ _ => trivial
    have last : ∀ (bb : Bool), bb = standB kv → (tCons (tOp (rNeD K) (tVar 5) (tLst tNil)) (tCons (tOp (rEqD K) (tVar 4) (tLst tNil)) tNil)) [some (.ref T), some (.int n), some (.ref h), u3, some (.ref b), some (.ref r)] H4 fun xs H' => (V.bl bb :: xs).length ≤ sizeLine ∧ ∀ p, H' p = none → Q (.ref p) (upd H' p (.lst (V.bl bb :: xs))) := fun bb eb => by
      walk_at "wn"
      refine ⟨Nat.zero_le _, fun z1 hz1 => ?_⟩
      have s5 := Same.new' (o := .lst []) hz1
      refine q_neNilI (s5 _ _ hr4) upd_same ?_
      walk_at "wn"
      refine ⟨Nat.zero_le _, fun z2 hz2 => ?_⟩
      have s6 := s5.trans (Same.new' (o := .lst []) hz2)
      refine q_eqNilI (s6 _ _ hb4) upd_same ?_
      walk_at "wn"
      refine ⟨by show 3 ≤ sizeLine; decide, fun p hp => ?_⟩
      have s7 := (s4.trans s6).trans (Same.new' (o := .lst [V.bl bb, .bl (!(reachL kv n).isEmpty), .bl (bothL kv).isEmpty]) hp)
      rw [eb]
      refine k _ p ?_ ?_ upd_same
      · rw [← eb]
        exact s7
      · cases e : H p with
        | none => rfl
        | some o =>
          have := (s4.trans s6) _ _ e
          rw [hp] at this
          cases this
    walk_at "wn"
    refine ⟨h, _, rfl, .inl (SqL.of hh4), rfl, fa, ?_⟩
    show ∃ b, V.bl (inV (.str "set") (accL kv 2)) = .bl b ∧ _
    cases h1 : inV (.str "set") (accL kv 2) with
    | false =>
      refine ⟨_, rfl, ?_⟩
      refine iteF ?_
      exact last false (by show false = (inV (.str "set") (accL kv 2) && _); rw [h1]; rfl)
    | true =>
      refine ⟨_, rfl, ?_⟩
      refine iteT ?_
      walk_at "wn"
      refine ⟨h, _, rfl, .inl (SqL.of hh4), rfl, fa, ?_⟩
      exact last _ (by show _ = (inV (.str "set") (accL kv 2) && inV (.str "source") (accL kv 2)); rw [h1]; rfl)
end

theorem rows_one {S : Sys} (h : ∀ s ∈ S.sets, s = 0) : ∀ ts : List Int, ts.Nodup → rowsOf S ts = if 0 ∈ ts ∧ 0 ∈ S.sets then (S.ents 0).map (fun l => ((0 : Int), l)) else []
  | [], _ => by rw [if_neg (fun z => absurd z.1 List.not_mem_nil)]; rfl
  | t :: ts, nd => by
    obtain ⟨n1, n2⟩ := List.nodup_cons.mp nd
    have ih := rows_one h ts n2
    unfold rowsOf at ih ⊢
    rw [List.flatMap_cons, ih]
    by_cases ht : t ∈ S.sets
    · obtain rfl := h t ht
      rw [if_pos ht, if_neg (fun z => n1 z.1), if_pos ⟨List.mem_cons_self, ht⟩, List.append_nil]
    · rw [if_neg ht, List.nil_append]
      by_cases z : 0 ∈ ts ∧ 0 ∈ S.sets
      · rw [if_pos z, if_pos ⟨List.mem_cons_of_mem _ z.1, z.2⟩]
      · rw [if_neg z, if_neg]
        rintro ⟨a, b⟩
        rcases List.mem_cons.mp a with e | e
        · exact ht (e ▸ b)
        · exact z ⟨e, b⟩
theorem paired_map {α β γ : Type} {R : α → γ → Prop} {g : β → γ} : ∀ {xs : List α} {ys : List β}, Paired R xs (ys.map g) → Paired (fun x y => R x (g y)) xs ys
  | [], [], _ => .nil
  | _ :: _, _ :: _, .cons h t => .cons h (paired_map t)
def standsL (S : Sys) (lab : Int) : List Int := if 0 ∈ S.sets ∧ 1 ∈ S.srcs then [lab] else []
theorem Gd.rows {S : Sys} {lab : Int} (G : Gd S lab) {ys : List Int} (pm : ys.Perm S.procs) : rowsOf S (thingsOf S [] ys) = (standsL S lab).map fun l => ((0 : Int), l) := by
  rw [rows_one G.s0 _ (things_nodup List.nodup_nil)]
  unfold standsL
  by_cases h0 : 0 ∈ S.sets
  · have hm : (0 : Int) ∈ thingsOf S [] ys := mem_things.mpr (.inr (by
      obtain ⟨p, hp, h⟩ := (G.W.kd 0).mpr (.inr h0)
      obtain ⟨n, hn⟩ := List.getElem?_of_mem h
      exact ⟨p, pm.mem_iff.mpr hp, n, hn⟩))
    rw [if_pos ⟨hm, h0⟩, G.en 0 h0]
    by_cases h1 : 1 ∈ S.srcs
    · rw [if_pos h1, if_pos ⟨h0, h1⟩]
    · rw [if_neg h1, if_neg (fun z => h1 z.2), List.map_nil]
  · rw [if_neg (fun z => h0 z.2), if_neg (fun z => h0 z.1), List.map_nil]
section
variable {K : PySem.W.Frag} {H : Hp} {a b : Addr} {Q : VK}
theorem q_eqNilR {S : Sys} {ys : List Int} {s : Int} {vs : List V} {ls : List Int} (h : ∀ l ∈ ls, (S.reg s l).word ∈ wordsL) (h1 : H a = some (.lst vs)) (p1 : Paired (RgAt S ys s H) vs ls) (h2 : H b = some (.lst [])) (k : Q (.bl ls.isEmpty) H) : rEqD K (.ref a) (.ref b) H Q := by
  refine ⟨_, _, .lst (SqL.of h1) (dp_rows p1), .lst (SqL.of h2) .nil, rows_shaped h, rfl, ?_⟩
  cases ls <;> exact k
theorem q_eqB3 {x y z x' y' z' : Bool} (h1 : H a = some (.lst [.bl x, .bl y, .bl z])) (h2 : H b = some (.lst [.bl x', .bl y', .bl z'])) (k : Q (.bl (decide (x = x') && decide (y = y') && decide (z = z'))) H) : rEqD K (.ref a) (.ref b) H Q := by
  refine ⟨_, _, .lst (SqL.of h1) (.cons (.bl _) (.cons (.bl _) (.cons (.bl _) .nil))), .lst (SqL.of h2) (.cons (.bl _) (.cons (.bl _) (.cons (.bl _) .nil))), ?_, ?_, ?_⟩
  · cases x <;> cases y <;> cases z <;> decide
  · cases x' <;> cases y' <;> cases z' <;> decide
  · have e : PyData.eqv (.list [.bool x, .bool y, .bool z]) (.list [.bool x', .bool y', .bool z']) = (decide (x = x') && decide (y = y') && decide (z = z')) := by
      cases x <;> cases y <;> cases z <;> cases x' <;> cases y' <;> cases z' <;> rfl
    rw [e]
    exact k
end
def foundL (S : Sys) (lab : Int) : List V := if 0 ∈ S.sets ∧ 1 ∈ S.srcs then [.bl true, .bl (reached S 0 lab), .bl (!together S 0 1)] else [.bl false, .bl false, .bl true]
section
variable {P : Program} {w : World} {K : PySem.W.Frag} {mg : Str → Option Value} {base : Heap} {C : Cs}
def spFound (C : Cs) : Sp := fun vs H Q _ => ∃ lab : Int, OnSys C vs H [.int lab] fun S ad dx => Gd S lab ∧ ∀ H' r, Same H H' → H r = none → H' r = some (.lst (foundL S lab)) → Q (.ref r) H'
abbrev nFound : List Str := ["_law_box", "_law_label", "_law_rows", "_law_row"]
theorem scFound : FnScope nFound ["_law_box", "_law_label"] (defScope sFound) := ⟨rfl, rfl, rfl, by decide +kernel, rfl, by decide +kernel, by decide +kernel⟩
theorem Gd.rgOk {S : Sys} {lab : Int} (G : Gd S lab) (h0 : 0 ∈ S.sets) (h1 : 1 ∈ S.srcs) : RgOk S 0 lab := by
  have hl : lab ∈ S.ents 0 := by rw [G.en 0 h0, if_pos h1]; exact List.mem_singleton_self _
  refine ⟨⟨h0, G.W.pl, fun p hp => G.W.t8 hp, G.W.tl⟩, hl, by rw [G.rg.2]; decide, fun q hq => ?_⟩
  have := G.W.tl q hq
  have := G.W.N3
  rw [G.rg.2, show (1 : Int).toNat = 1 from rfl]
  omega
theorem okFound {f fG fR fS : Addr} {fd fdG fdR fdS : FuncData} (F : Fun K "_law_found" "_law_found" sFound f fd) (T : ClsF K C.S sysF) (GG : MO P w K mg base 3 C.S "registrations" ["self"] (spRegsG C) fG fdG)
    (GR : DO P w K mg base 6 "is_reached" ["system", "set_name", "label"] (spIsReached C) fR fdR) (GS : DO P w K mg base 6 "is_sealed" ["system", "set_name", "label"] (spIsSealed C) fS fdS) :
    FnOk P w K mg base CX0 7 f fd ["_law_box", "_law_label"] (spFound C) := by
  refine F.ok scFound (fun vs H Q E h => ?_) (fun cdv A outer s H vs Q E hr h => ?_)
  · obtain ⟨_, _, _, _, rfl, _⟩ := h
    rfl
  · obtain ⟨lab, S, ad, dx, rfl, A0, G, k⟩ := h
    have hu := hr.units
    have r3 : Room 3 _ := hr.mono (by decide)
    refine ⟨_, pss_cut (ps_setLc (i := 2) (own := [("_law_row", 3)]) (g := gName 3) (tt := tTest (tOp rEq (tOp (rIxT K) (tVar 3) (tC (.int 1))) (tVar 1))) (te := tVar 3) rfl scFound.nd rfl rfl (sw_true rfl rfl rfl (by decide +kernel)) (pi_list (pe_meth0 (pv 0) T.cl GG.m GG.g r3 GG.b .nil pass0)) (blkOk_by (N := nFound) (sc := defScope sFound) (by decide +kernel)) (fun _ _ _ _ _ => pg_name (i := 3) scFound.nd rfl (Or.inl rfl))
          (fun _ _ _ _ _ => pts_one (pt_cmpR op_eq (pe_ix ix_tup (pv 3) pe_int (fun _ _ => rfl)) (pv 1) (nomark _))) (fun _ _ _ _ _ => pv 3))
      (pss_cons (ps_if (pt_cmpR (op_eqD hu) (pv 2) (pe_lst pa_nil) (nomark _)) (pss_one (ps_ret (pe_lst (pa_cons pe_bl (pa_cons pe_bl (pa_cons pe_bl pa_nil)))))) pss_nil)
      (pss_one (ps_ret (pe_lst (pa_cons pe_bl (pa_cons (pe_call GR.g hr (by rfl) GR.m GR.k GR.b .nil pass0 (pa_cons (pv 0) (pa_cons (pe_ix ix_tup (pe_ix ix_list (pv 2) pe_int (fun _ _ => rfl)) pe_int (fun _ _ => rfl)) (pa_cons (pv 1) pa_nil))))
        (pa_cons (pe_call GS.g hr (by rfl) GS.m GS.k GS.b .nil pass0 (pa_cons (pv 0) (pa_cons (pe_ix ix_tup (pe_ix ix_list (pv 2) pe_int (fun _ _ => rfl)) pe_int (fun _ _ => rfl)) (pa_cons (pv 1) pa_nil)))) pa_nil))))))), ?_⟩
    refine ⟨fun σ' H' => ∃ L ys rs, σ' = [some (.ref (ad .box)), some (.int lab), some (.ref L), none] ∧ Same H H' ∧ H L = none ∧ H' L = some (.lst rs) ∧ ys.Perm S.procs ∧ ys.Pairwise (· ≤ ·) ∧ Paired (RgAt S ys 0 H') rs (standsL S lab), ?_, ?_⟩
    · refine ⟨_, rfl, ad .box, dx .box, _, rfl, A0.at_ .box trivial, rfl, ?_⟩
      refine ⟨S, ad, dx, rfl, A0, G.W, fun ys H1 r rs pm pw s1 nr hr1 pr1 => ?_⟩
      rw [G.rows pm] at pr1
      have pr1 : Paired (RgAt S ys 0 H1) rs (standsL S lab) := paired_map (g := fun l => ((0 : Int), l)) pr1
      refine ⟨r, rfl, ⟨_, SqL.of hr1⟩, fun D hD => ?_⟩
      refine lc_it (walk_list (K := K) (xs := rs)) (fun i H' => Same H1 H' ∧ H' D = some (.lst (rs.take i))) ⟨Same.new' hD, upd_same⟩ (fun i H' _ ⟨sm, _⟩ => SqL.of (sm _ _ hr1)) ?_ ?_
      · rintro i v H2 H3 hi ⟨sm, hd⟩ ⟨rfl, ex⟩
        obtain ⟨l, hl, T1, v1, v2, r1, r2, rfl, hT1, _⟩ := paired_at pr1 ex
        have hT2 := sm _ _ hT1
        have el : l = lab := by
          have := List.mem_of_getElem? hl
          unfold standsL at this
          split at this
          · exact List.mem_singleton.mp this
          · exact absurd this List.not_mem_nil
        subst el
        refine ⟨by simp [wipe, List.set_set], ?_⟩
        walk_at "wn"
        refine ⟨T1, _, 1, .int l, rfl, rfl, SqT.of hT2, rfl, ?_⟩
        walk_at "wn"
        have lr := paired_len pr1
        have l1 : (standsL S l).length ≤ 1 := by unfold standsL; split <;> simp
        refine ⟨_, hd, by rw [List.length_take, sizeLine_eq]; omega, fun b o e => ?_, by rw [upd_same, List.take_add_one, ex]; rfl⟩
        rw [upd_ne (ne_of_none e hD)]
        exact sm _ _ e
      · rintro H2 ⟨sm, hd⟩
        rw [List.take_length] at hd
        refine ⟨D, ys, rs, rfl, s1.trans sm, ?_, hd, pm, pw, ?_⟩
        · cases e : H D with
          | none => rfl
          | some o =>
            rw [s1 _ _ e] at hD
            cases hD
        · exact rgs_keep pr1 fun b o e => .inr (sm _ _ e)
    rintro σ' H1 ⟨L, ys, rs, rfl, s1, nL, hL, pm, pw, pr⟩
    have hwd : ∀ l ∈ standsL S lab, (S.reg 0 l).word ∈ wordsL := fun l hl => by
      unfold standsL at hl
      split at hl
      · rename_i h
        obtain rfl := List.mem_singleton.mp hl
        exact G.W.rw_ 0 h.1 _ (G.rgOk h.1 h.2).lm
      · exact absurd hl List.not_mem_nil
    walk_at "wn"
    refine ⟨Nat.zero_le _, fun z hz => ?_⟩
    have s2 := Same.new' (o := .lst []) hz
    refine q_eqNilR hwd (s2 _ _ hL) (rgs_keep pr fun b o e => .inr (s2 _ _ e)) upd_same ?_
    have nof : ∀ {r : Addr} {H' : Hp}, Same H H' → H' r = none → H r = none := fun {r H'} s e => by
      cases h : H r with
      | none => rfl
      | some o => rw [s _ _ h] at e; cases e
    refine ⟨_, rfl, ?_⟩
    by_cases hs : 0 ∈ S.sets ∧ 1 ∈ S.srcs
    · have e1 : standsL S lab = [lab] := if_pos hs
      rw [e1]
      refine iteF ?_
      have pr2 := rgs_keep pr fun b o e => .inr (s2 _ _ e)
      have hL2 := s2 _ _ hL
      have s3 := s1.trans s2
      generalize upd H1 z (.lst []) = H2 at pr2 hL2 s3
      rw [e1] at pr2
      cases pr2 with
      | cons h t =>
      cases t
      obtain ⟨T1, v1, v2, r1, r2, rfl, hT1, hp1, ⟨Tn, rfl, hTn⟩, hp2, _⟩ := h
      have R := G.rgOk hs.1 hs.2
      have A2 := A0.same s3
      walk_at "wn"
      refine ⟨T1, _, 0, .ref Tn, rfl, rfl, SqT.of hT1, rfl, ?_⟩
      walk_at "wn"
      refine ⟨Tn, 0, lab, S, ad, dx, rfl, A2, R, ⟨ys, r1, pm, pw, hp1, hTn⟩, fun H3 s4 => ?_⟩
      have hL3 := s4 _ _ hL2
      walk_at "wn"
      refine ⟨T1, _, 0, .ref Tn, rfl, rfl, SqT.of (s4 _ _ hT1), rfl, ?_⟩
      walk_at "wn"
      refine ⟨Tn, 0, lab, S, ad, dx, rfl, A2.same s4, R, ⟨ys, r1, pm, pw, hp1, s4 _ _ hTn⟩, fun H4 s5 => ?_⟩
      walk_at "wn"
      refine ⟨by show 3 ≤ sizeLine; decide, fun q hq => ?_⟩
      have s6 := (s3.trans s4).trans s5
      refine k _ q (s6.trans (Same.new' hq)) (nof s6 hq) ?_
      rw [upd_same]
      unfold foundL
      rw [if_pos hs, G.rg.1]
    · have e1 : standsL S lab = [] := if_neg hs
      rw [e1]
      refine iteT ?_
      walk_at "wn"
      refine ⟨by show 3 ≤ sizeLine; decide, fun q hq => ?_⟩
      refine k _ q ((s1.trans s2).trans (Same.new' hq)) (nof (s1.trans s2) hq) ?_
      rw [upd_same]
      unfold foundL
      rw [if_neg hs]
end

/-- the law's tables are the system's -/
structure Tbs (S : Sys) (kv : Int → List (Key × V)) : Prop where
  tb : ∀ p ∈ ([0, 1] : List Int), Tbl S p (kv p)
section
variable {S : Sys} {lab : Int} {kv : Int → List (Key × V)}
theorem Tbs.set (B : Tbs S kv) (G : Gd S lab) {p : Int} (hp : p ∈ ([0, 1] : List Int)) : hasB (kv p) "set" = decide (some 0 ∈ S.tab p) := (B.tb p hp).has fun u h => G.isSet (by rw [G.pr]; exact hp) h
theorem Tbs.src (B : Tbs S kv) (G : Gd S lab) {p : Int} (hp : p ∈ ([0, 1] : List Int)) : hasB (kv p) "source" = decide (some 1 ∈ S.tab p) := (B.tb p hp).has fun u h => G.isSrc (by rw [G.pr]; exact hp) h
theorem Tbs.num (B : Tbs S kv) (G : Gd S lab) {p : Int} (hp : p ∈ ([0, 1] : List Int)) (n : Int) : decide ((valV (kv p) (Sum.inl n)).getD .non = V.str "source") = decide (cellAt S p n = some 1) := (B.tb p hp).at1 (fun u h => G.isSrc (by rw [G.pr]; exact hp) h) n
theorem inV_app (x : V) (a b : List V) : inV x (a ++ b) = (inV x a || inV x b) := by
  unfold inV
  rw [List.any_append]
theorem Tbs.stand (B : Tbs S kv) (G : Gd S lab) : standB kv = decide (0 ∈ S.sets ∧ 1 ∈ S.srcs) := by
  have m0 : (0 : Int) ∈ ([0, 1] : List Int) := by decide
  have m1 : (1 : Int) ∈ ([0, 1] : List Int) := by decide
  unfold standB
  rw [inV_app, inV_app]
  have a := B.set G m0
  have b := B.set G m1
  have c := B.src G m0
  have d := B.src G m1
  unfold hasB at a b c d
  rw [a, b, c, d, Bool.eq_iff_iff, Bool.and_eq_true, Bool.or_eq_true, Bool.or_eq_true, decide_eq_true_eq, decide_eq_true_eq, decide_eq_true_eq, decide_eq_true_eq, decide_eq_true_eq, G.set0, G.src1, G.pr]
  simp only [List.mem_cons, List.not_mem_nil, or_false, exists_eq_or_imp, exists_eq_left]
theorem Tbs.both (B : Tbs S kv) (G : Gd S lab) : (bothL kv).isEmpty = !together S 0 1 := by
  have e : bothL kv = ([0, 1] : List Int).filter fun p => decide (some 0 ∈ S.tab p) && decide (some 1 ∈ S.tab p) := by
    unfold bothL
    refine List.filter_congr fun p hp => ?_
    rw [B.set G hp, B.src G hp]
  rw [e]
  unfold together
  rw [G.pr]
  generalize (fun p => decide (some (0 : Int) ∈ S.tab p) && decide (some (1 : Int) ∈ S.tab p)) = f
  rw [List.filter_cons, List.filter_cons, List.filter_nil, List.any_cons, List.any_cons, List.any_nil]
  cases f 0 <;> cases f 1 <;> rfl
theorem Tbs.reach (B : Tbs S kv) (G : Gd S lab) : (!(reachL kv 1).isEmpty) = reached S 0 lab := by
  have e : reachL kv 1 = ([0, 1] : List Int).filter fun p => decide (some 0 ∈ S.tab p) && decide (cellAt S p 1 = some 1) := by
    unfold reachL bothL
    rw [List.filter_filter]
    refine List.filter_congr fun p hp => ?_
    rw [B.set G hp, B.src G hp, B.num G hp]
    by_cases h : cellAt S p 1 = some 1
    · have := List.mem_of_getElem? (cell_of.mp h).2
      rw [decide_eq_true h, decide_eq_true this, Bool.true_and]
    · rw [decide_eq_false h, Bool.false_and, Bool.and_false]
  have e2 : ∀ p, decide (cellAt S p 1 = some 1) = decide ((S.tab p)[(1 : Int).toNat]? = some (some (1 : Int))) := fun p => by
    rw [decide_eq_decide, cell_of]
    exact ⟨fun z => z.2, fun z => ⟨by decide, z⟩⟩
  rw [e]
  unfold reached
  rw [G.pr, G.rg.1, G.rg.2]
  have e3 : (fun p => decide (some (0 : Int) ∈ S.tab p) && decide (cellAt S p 1 = some 1)) = fun q => decide (some (0 : Int) ∈ S.tab q) && decide ((S.tab q)[(1 : Int).toNat]? = some (some (1 : Int))) := funext fun p => by rw [e2]
  rw [e3]
  generalize (fun q => decide (some (0 : Int) ∈ S.tab q) && decide ((S.tab q)[(1 : Int).toNat]? = some (some (1 : Int)))) = f
  rw [List.filter_cons, List.filter_cons, List.filter_nil, List.any_cons, List.any_cons, List.any_nil]
  cases f 0 <;> cases f 1 <;> rfl
end
section
variable {P : Program} {w : World} {K : PySem.W.Frag} {mg : Str → Option Value} {base : Heap} {C : Cs}
def spRight (C : Cs) : Sp := fun vs H Q _ => ∃ (S : Sys) (ad dx : Cell → Addr) (T : Addr) (al : Int → Addr) (kv : Int → List (Key × V)) (lab : Int), vs = [.ref (ad .box), .ref T, .int 1, .int lab] ∧ At C H S ad dx ∧ Gd S lab ∧ H T = some (.dK (entKV [0, 1] al)) ∧ DTs H T al kv ∧ Tbs S kv ∧
  ∀ H', Same H H' → Q (.bl true) H'
abbrev nRight : List Str := ["_law_box", "_law_tables", "_law_n", "_law_label", "_law_due_here", "_law_found_here"]
theorem scRight : FnScope nRight ["_law_box", "_law_tables", "_law_n", "_law_label"] (defScope sRight) := ⟨rfl, rfl, rfl, by decide +kernel, rfl, by decide +kernel, by decide +kernel⟩
theorem okRight {f fD fF : Addr} {fd fdD fdF : FuncData} (F : Fun K "_law_right" "_law_right" sRight f fd) (GD : DO P w K mg base 1 "_law_due" ["_law_tables", "_law_n"] spDue fD fdD) (GF : DO P w K mg base 7 "_law_found" ["_law_box", "_law_label"] (spFound C) fF fdF) :
    FnOk P w K mg base CX0 8 f fd ["_law_box", "_law_tables", "_law_n", "_law_label"] (spRight C) := by
  refine F.ok scRight (fun vs H Q E h => ?_) (fun cdv A outer s H vs Q E hr h => ?_)
  · obtain ⟨_, _, _, _, _, _, _, rfl, _⟩ := h
    rfl
  · obtain ⟨S, ad, dx, T, al, kv, lab, rfl, A0, G, hT, D0, B, k⟩ := h
    have hu := hr.units
    have r1 : Room 1 _ := hr.mono (by decide)
    refine ⟨_, pss_cut (ps_par (i := 4) (j := 5) (by rfl) scRight.nd rfl rfl (by decide) rfl rfl (pa_cons (pe_call GD.g r1 (by rfl) GD.m GD.k GD.b .nil pass0 (pa_cons (pv 1) (pa_cons (pv 2) pa_nil))) (pa_cons (pe_call GF.g hr (by rfl) GF.m GF.k GF.b .nil pass0 (pa_cons (pv 0) (pa_cons (pv 3) pa_nil))) pa_nil)) (by rfl))
      (pss_one (ps_ret (pe_ifExp (pt_val (pe_ix ix_list (pv 4) pe_int (fun _ _ => rfl))) (pe_cmpR (op_eqD hu) (pv 5) (pv 4) (nomark _)) (pe_not (pe_ix ix_list (pv 5) pe_int (fun _ _ => rfl)))))), ?_⟩
    refine ⟨fun σ' H' => ∃ d r, σ' = [some (.ref (ad .box)), some (.ref T), some (.int 1), some (.int lab), some (.ref d), some (.ref r)] ∧ Same H H' ∧ H' d = some (.lst [.bl (standB kv), .bl (!(reachL kv 1).isEmpty), .bl (bothL kv).isEmpty]) ∧ H' r = some (.lst (foundL S lab)), ?_, ?_⟩
    · unfold tPar
      walk_at "wn"
      refine ⟨T, al, kv, 1, rfl, hT, D0, fun H1 d s1 nd hd => ?_⟩
      walk_at "wn"
      refine ⟨lab, S, ad, dx, rfl, A0.same s1, G, fun H2 r s2 nr hr2 => ?_⟩
      walk_at "wn"
      refine ⟨_, _, rfl, ?_⟩
      exact ⟨d, r, rfl, s1.trans s2, s2 _ _ hd, hr2⟩
    rintro σ' H1 ⟨d, r, rfl, s1, hd, hr1⟩
    unfold foundL at hr1
    have es := B.stand G
    rw [es, B.reach G, B.both G] at hd
    by_cases hs : 0 ∈ S.sets ∧ 1 ∈ S.srcs
    · rw [if_pos hs] at hr1
      rw [decide_eq_true hs] at hd
      walk_at "wn"
      refine q_eqB3 hr1 hd ?_
      rw [decide_eq_true rfl, decide_eq_true rfl, decide_eq_true rfl]
      exact k _ s1
    · rw [if_neg hs] at hr1
      rw [decide_eq_false hs] at hd
      walk_at "wn"
      exact k _ s1
end

/-! how the law's system begins -/
def B1 (N : Int) : Sys := newSet (newSys 2 N) 0 0
def B2 (N : Int) : Sys := newSource (B1 N) 0 1
def B3 (N : Int) : Sys := newSource (B2 N) 0 2
abbrev NOk (N : Int) : Prop := N = 4 ∨ N = 5 ∨ N = 6
theorem ff0 {N : Int} (h : NOk N) : firstFree ((newSys 2 N).tab 0) 0 := by
  rcases h with rfl | rfl | rfl <;> exact ⟨rfl, fun i hi => absurd hi (Nat.not_lt_zero _)⟩
theorem ff1 {N : Int} (h : NOk N) : firstFree ((B1 N).tab 0) 1 := by
  rcases h with rfl | rfl | rfl <;> exact ⟨rfl, fun i hi => by
    obtain rfl : i = 0 := by omega
    exact ⟨0, rfl⟩⟩
theorem ff2 {N : Int} (h : NOk N) : firstFree ((B2 N).tab 0) 2 := by
  rcases h with rfl | rfl | rfl <;> exact ⟨rfl, fun i hi => by
    rcases (show i = 0 ∨ i = 1 by omega) with rfl | rfl
    · exact ⟨0, rfl⟩
    · exact ⟨1, rfl⟩⟩
theorem B0.wf {N : Int} (h : NOk N) : WF (newSys 2 N) := WF.start (by decide) (by decide) (by rcases h with rfl | rfl | rfl <;> decide) (by rcases h with rfl | rfl | rfl <;> decide)
theorem B1.wf {N : Int} (h : NOk N) : WF (B1 N) := (B0.wf h).newSet (List.mem_singleton_self _) (ff0 h)
theorem B2.wf {N : Int} (h : NOk N) : WF (B2 N) := (B1.wf h).newSource (List.mem_singleton_self _) (ff1 h)
theorem B3.wf {N : Int} (h : NOk N) : WF (B3 N) := (B2.wf h).newSource (List.mem_singleton_self _) (ff2 h)
abbrev kv3 : List (Key × V) := [(Sum.inl 0, .str "set"), (Sum.inl 1, .str "source"), (Sum.inl 2, .str "other")]
structure Pre (S : Sys) (lab N : Int) (kvs : List (Key × V)) : Prop where
  W : WF S
  P : S.P = 2
  N : S.N = N
  pr : S.procs = [0]
  sets : S.sets = [0]
  srcs : S.srcs = [1, 2]
  en : S.ents 0 = [lab]
  rg : (S.reg 0 lab).src = 1 ∧ (S.reg 0 lab).num = 1
  tb : Tbl S 0 kvs
  at0 : (S.tab 0)[0]? = some (some 0)
  at1 : (S.tab 0)[1]? = some (some 1)
  short : kvs.length ≤ 5
theorem cellB {N : Int} (h : NOk N) (n : Int) : cellAt (B3 N) 0 n = if n = 2 then some 2 else if n = 1 then some 1 else if n = 0 then some 0 else none := by
  have e3 : cellAt (B3 N) 0 n = if (0 : Int) = 0 ∧ n = 2 then some 2 else cellAt (B2 N) 0 n := cell_set (S := B2 N) (by decide) (by rcases h with rfl | rfl | rfl <;> decide) rfl
  have e2 : cellAt (B2 N) 0 n = if (0 : Int) = 0 ∧ n = 1 then some 1 else cellAt (B1 N) 0 n := cell_set (S := B1 N) (by decide) (by rcases h with rfl | rfl | rfl <;> decide) rfl
  have e1 : cellAt (B1 N) 0 n = if (0 : Int) = 0 ∧ n = 0 then some 0 else cellAt (newSys 2 N) 0 n := cell_set (S := newSys 2 N) (by decide) (by rcases h with rfl | rfl | rfl <;> decide) rfl
  have e0 : cellAt (newSys 2 N) 0 n = none := by
    unfold cellAt
    split
    · show ((List.replicate N.toNat (none : Option Int))[n.toNat]?).join = none
      rw [List.getElem?_replicate]
      split <;> rfl
    · rfl
  rw [e3, e2, e1, e0]
  simp only [true_and]
theorem Tbl.three {S : Sys} (h : ∀ n, cellAt S 0 n = if n = 2 then some 2 else if n = 1 then some 1 else if n = 0 then some 0 else none) : Tbl S 0 kv3 := by
  refine ⟨by decide, fun kv hk => ?_, fun n => ?_⟩
  · simp only [List.mem_cons, List.not_mem_nil, or_false] at hk
    rcases hk with rfl | rfl | rfl <;> exact ⟨_, rfl⟩
  · rw [h]
    by_cases e2 : n = 2
    · subst e2
      rfl
    · rw [if_neg e2]
      by_cases e1 : n = 1
      · subst e1
        rfl
      · rw [if_neg e1]
        by_cases e0 : n = 0
        · subst e0
          rfl
        · rw [if_neg e0, valV_neg (fun z => e0 (Sum.inl.inj z).symm), valV_neg (fun z => e1 (Sum.inl.inj z).symm), valV_neg (fun z => e2 (Sum.inl.inj z).symm)]
          rfl
def B4 (N lab : Int) (wd : Str) : Sys := added (B3 N) 0 lab ⟨1, 1, wd, true⟩
theorem B3.m0 {N : Int} (h : NOk N) : Means (B3 N) 0 0 0 := by
  rcases h with rfl | rfl | rfl <;> exact ⟨List.mem_singleton_self _, by decide, by decide, rfl⟩
theorem B3.m1 {N : Int} (h : NOk N) : Means (B3 N) 0 1 1 := by
  rcases h with rfl | rfl | rfl <;> exact ⟨List.mem_singleton_self _, by decide, by decide, rfl⟩
theorem B3.add {N lab : Int} {wd : Str} (h : NOk N) (l0 : 0 ≤ lab) (l1 : lab ≤ 999999) (hw : wd ∈ wordsL) : addM (B3 N) (.int 0) (.int 0) (.int 1) (.int lab) (.str wd) = .ok (0, 1) := by
  unfold addM
  rw [setOf_of (B3.m0 h) (List.mem_singleton_self _)]
  dsimp only
  rw [source_of (B3.m1 h) (by show (1 : Int) ∈ ([1, 2] : List Int); decide)]
  dsimp only
  rw [if_pos (inB_of l0 l1), if_pos (by
    unfold wordsL at hw
    simp only [List.mem_cons, List.not_mem_nil, or_false] at hw
    rcases hw with rfl | rfl | rfl <;> decide)]
  rfl
theorem B4.pre {N lab : Int} {wd : Str} (h : NOk N) (l0 : 0 ≤ lab) (l1 : lab ≤ 999999) (hw : wd ∈ wordsL) : Pre (B4 N lab wd) lab N kv3 := by
  refine ⟨(B3.wf h).added (List.mem_singleton_self _) l0 l1 (by show (1 : Int) ∈ ([1, 2] : List Int); decide) (by show (0 : Int) ≤ 1; decide) (by show (1 : Int) < N; rcases h with rfl | rfl | rfl <;> decide) hw List.not_mem_nil rfl, rfl, rfl, rfl, rfl, rfl, rfl, ?_, Tbl.three (S := B4 N lab wd) (cellB h), ?_, ?_, by decide⟩
  · have e : (B4 N lab wd).reg 0 lab = ⟨1, 1, wd, true⟩ := if_pos ⟨rfl, rfl⟩
    rw [e]
    exact ⟨rfl, rfl⟩
  · rcases h with rfl | rfl | rfl <;> rfl
  · rcases h with rfl | rfl | rfl <;> rfl
theorem Pre.means {S : Sys} {lab N t : Int} {kvs : List (Key × V)} (X : Pre S lab N kvs) (hN : NOk N) (ht : t = 0 ∨ t = 1) : Means S 0 t t := by
  have e := X.N
  refine ⟨by rw [X.pr]; exact List.mem_singleton_self _, by omega, by rcases hN with z | z | z <;> omega, ?_⟩
  rcases ht with rfl | rfl
  · exact X.at0
  · exact X.at1
theorem Pre.copy {S : Sys} {lab N t : Int} {kvs : List (Key × V)} (X : Pre S lab N kvs) (hN : NOk N) (ht : t = 0 ∨ t = 1) : copyM S (.int 0) (.int t) (.int 3) = .ok (3, t) := by
  unfold copyM
  rw [thing_of (X.means hN ht)]
  dsimp only
  have e : goalOf S (toI (.int 0)) (.int 3) = .ok 3 := by
    unfold goalOf
    rw [if_neg (fun z => by cases z), if_pos (inB_of (by decide) (by rw [X.N]; rcases hN with z | z | z <;> omega))]
    rfl
  rw [e]
theorem Pre.paste {S : Sys} {lab N t : Int} {kvs : List (Key × V)} (X : Pre S lab N kvs) (hN : NOk N) (ht : t = 0 ∨ t = 1) (hf : (S.tab 0)[3]? = some none) (hk : kvs.length ≤ 3) : Pre (pasted S 0 3 t) lab N (putK kvs (Sum.inl 3) (.str (nm t))) := by
  have hl : 3 < (S.tab 0).length := (List.getElem?_eq_some_iff.mp hf).1
  have W := X.W.pasted (X.means hN ht) hl
  have tb := X.tb.paste (p := 0) (t := t) hl
  rw [if_pos rfl] at tb
  have e : pasted S 0 3 t = copied S 0 3 t := by unfold pasted; rw [hf]
  rw [e] at W tb ⊢
  refine ⟨W, X.P, X.N, X.pr, X.sets, X.srcs, X.en, X.rg, tb, ?_, ?_, ?_⟩
  · show ((S.tab 0).set 3 (some t))[0]? = _
    rw [List.getElem?_set, if_neg (by decide)]
    exact X.at0
  · show ((S.tab 0).set 3 (some t))[1]? = _
    rw [List.getElem?_set, if_neg (by decide)]
    exact X.at1
  · have h1 := length_putK kvs (Sum.inl (3 : Int)) (.str (nm t))
    omega
theorem Pre.fork {S : Sys} {lab N : Int} {kvs : List (Key × V)} (X : Pre S lab N kvs) : forkM S (.int 0) = .ok (0, 1) ∧ Gd (forked S 0 1) lab ∧ ∀ p ∈ ([0, 1] : List Int), Tbl (forked S 0 1) p kvs := by
  have f1 : FreeP S 1 := ⟨by rw [X.pr]; decide, fun i hi => by
    obtain rfl : i = 0 := by omega
    rw [X.pr]
    exact List.mem_singleton_self _, by rw [X.P]; decide⟩
  have hp : (0 : Int) ∈ S.procs := by rw [X.pr]; exact List.mem_singleton_self _
  refine ⟨?_, ⟨X.W.forked hp f1, ?_, fun s hs => ?_, fun t ht => ?_, fun s hs => ?_, X.rg⟩, fun p hp => ?_⟩
  · unfold forkM
    rw [tabOf_of hp]
    dsimp only
    rw [firstP_of f1]
  · show S.procs ++ [((1 : Nat) : Int)] = [0, 1]
    rw [X.pr]
    rfl
  · have hs : s ∈ S.sets := hs
    rw [X.sets] at hs
    exact List.mem_singleton.mp hs
  · have ht : t ∈ S.srcs := ht
    rw [X.srcs] at ht
    simp only [List.mem_cons, List.not_mem_nil, or_false] at ht
    exact ht
  · have hs : s ∈ S.sets := hs
    rw [X.sets] at hs
    obtain rfl := List.mem_singleton.mp hs
    show S.ents 0 = if 1 ∈ S.srcs then [lab] else []
    rw [X.en, X.srcs, if_pos (by decide)]
  · have e : ∀ n, cellAt (forked S 0 1) p n = cellAt S 0 n := fun n => by
      unfold cellAt
      have et : (forked S 0 1).tab p = S.tab 0 := by
        show (if p = ((1 : Nat) : Int) then S.tab 0 else S.tab p) = S.tab 0
        split
        · rfl
        · simp only [List.mem_cons, List.not_mem_nil, or_false] at hp
          rcases hp with rfl | rfl
          · rfl
          · rename_i h
            exact absurd rfl h
      rw [et]
    exact ⟨X.tb.nd, X.tb.ky, fun n => by rw [e, X.tb.vl]⟩
theorem B4.free3 {N lab : Int} {wd : Str} (h : NOk N) : ((B4 N lab wd).tab 0)[3]? = some none := by
  rcases h with rfl | rfl | rfl <;> rfl

structure Ms (P : Program) (w : World) (K : PySem.W.Frag) (mg : Str → Option Value) (base : Heap) (C : Cs) (D : Es) : Prop where
  T : ClsF K C.S sysF
  nso : ∃ f fd, FnOk P w K mg base (L2.CX P w) 6 f fd ["self", "process"] (spNewSourceX C D) ∧ Meth K C.S "new_source" f ∧ Binds K fd ["self", "process"] []
  nse : ∃ f fd, FnOk P w K mg base (L2.CX P w) 6 f fd ["self", "process"] (spNewSetX C D) ∧ Meth K C.S "new_set" f ∧ Binds K fd ["self", "process"] []
  add : ∃ f fd g, FnOk P w K mg base (L2.CX P w) 6 f fd ["self", "process", "set_number", "number", "label", "word"] (spAddX C D) ∧ Meth K C.S "add" f ∧ KBn K fd ["self", "process", "set_number", "number", "label", "word"] 5 ["word"] g (fun vs zs => vs ++ zs)
  cpy : ∃ f fd, FnOk P w K mg base (L2.CX P w) 5 f fd ["self", "process", "number", "to"] (spCopyX C D) ∧ Meth K C.S "copy" f ∧ Binds K fd ["self", "process", "number", "to"] []
  clo : ∃ f fd, FnOk P w K mg base (L2.CX P w) 5 f fd ["self", "process", "number"] (spCloseX C D) ∧ Meth K C.S "close" f ∧ Binds K fd ["self", "process", "number"] []
  frk : ∃ f fd, FnOk P w K mg base (L2.CX P w) 4 f fd ["self", "process"] (spForkX C D) ∧ Meth K C.S "fork" f ∧ Binds K fd ["self", "process"] []
theorem fl_int {H : Hp} {i : Int} (h1 : -1000000 ≤ i) (h2 : i ≤ 1000000) : Flat H (.int i) := .int i (by
  have : i.natAbs < 2 ^ 20 := by omega
  rcases (by omega : i.natAbs = 0 ∨ i.natAbs ≠ 0) with z | z
  · rw [z]
    decide
  · exact Nat.lt_trans ((Nat.log2_lt z).mpr this) (by decide))
theorem bag_ne {O : Hp} {p a : Addr} {kvs : List (Key × V)} (b : BagAt O p) (h : O a = some (.dK kvs)) : a ≠ p := fun z => by
  obtain ⟨xs, e⟩ := b.lst
  rw [z, e] at h
  cases h
/-- two more objects of the law's own -/
theorem LW.new2 {C : Cs} {Hb H HF : Hp} {x d T : Addr} {S : Sys} {ad dx : Cell → Addr} {O : Hp} {o1 o2 : HO} (W : LW C Hb x H S ad dx O) (hd : H d = none) (hT : H T = none) (ne : d ≠ T) (e1 : HF d = some o1) (e2 : HF T = some o2) (s : Same H HF) : LW C Hb x HF S ad dx (upd (upd O d o1) T o2) := by
  have W1 : LW C Hb x (fun b => if b = T then none else HF b) S ad dx (upd O d o1) := W.new hd (by rw [if_neg ne]; exact e1) fun b o h => by
    show (if b = T then none else HF b) = some o
    rw [if_neg (fun z => by rw [z, hT] at h; cases h)]
    exact s _ _ h
  refine W1.new (if_pos rfl) e2 fun b o h => ?_
  have h : (if b = T then none else HF b) = some o := h
  by_cases z : b = T
  · rw [if_pos z] at h
    cases h
  · rw [if_neg z] at h
    exact h
theorem LW.bagN {C : Cs} {Hb H : Hp} {x p d : Addr} {S : Sys} {ad dx : Cell → Addr} {O : Hp} (W : LW C Hb x H S ad dx O) (b : BagAt O p) (hd : H d = none) : p ≠ d := fun z => by
  obtain ⟨u, v, e, _⟩ := b
  have := W.on _ _ e
  rw [z, hd] at this
  cases this
theorem bag_upd {O : Hp} {p d : Addr} {o : HO} (b : BagAt O p) (n : p ≠ d) : BagAt (upd O d o) p := by
  obtain ⟨u, v, e, r⟩ := b
  exact ⟨u, v, (upd_ne n).trans e, r⟩
/-! the law at work: its system, its bag, its tables -/
inductive Gm (C : Cs) (Hb : Hp) (x p T : Addr) (al : Int → Addr) (kv : Int → List (Key × V)) (S : Sys) (ad dx : Cell → Addr) (H : Hp) : Prop
  | mk {O : Hp} (W : LW C Hb x H S ad dx O) (bag : BagAt O p) (top : O T = some (.dK (entKV [0, 1] al))) (at_ : ∀ q ∈ ([0, 1] : List Int), O (al q) = some (.dK (kv q))) (ne : ∀ q ∈ ([0, 1] : List Int), al q ≠ T) (inj : al 0 ≠ al 1)
section
variable {C : Cs} {Hb H H' : Hp} {x p T : Addr} {al : Int → Addr} {kv : Int → List (Key × V)} {S S' : Sys} {ad ad' dx dx' : Cell → Addr}
theorem Gm.same (G : Gm C Hb x p T al kv S ad dx H) (s : Same H H') : Gm C Hb x p T al kv S ad dx H' := by
  cases G with
  | mk W b t a n i => exact .mk (W.same s) b t a n i
theorem Gm.step (G : Gm C Hb x p T al kv S ad dx H) (A : At C H' S' ad' dx') (st : Step H S ad H' S' ad') : Gm C Hb x p T al kv S' ad' dx' H' := by
  cases G with
  | mk W b t a n i => exact .mk (W.step A st) b t a n i
theorem Gm.draw (G : Gm C Hb x p T al kv S ad dx H) (e : ∀ b, b ≠ p → H' b = H b) (bg : BagAt H' p) : Gm C Hb x p T al kv S ad dx H' := by
  cases G with
  | mk W b t a n i =>
    obtain ⟨xs, b2, W2⟩ := W.draw b e bg
    exact .mk W2 b2 ((upd_ne (bag_ne b t)).trans t) (fun q hq => (upd_ne (bag_ne b (a q hq))).trans (a q hq)) n i
theorem Gm.at_ (G : Gm C Hb x p T al kv S ad dx H) : At C H S ad dx := by
  cases G with
  | mk W b t a n i => exact W.at_
theorem Gm.box (G : Gm C Hb x p T al kv S ad dx H) : ad .box = x := by
  cases G with
  | mk W b t a n i => exact W.box
theorem Gm.hb (G : Gm C Hb x p T al kv S ad dx H) : H x = some (sysO C.S (dx .box) S (ad .tabD) (ad .srcD) (ad .setD)) := by
  cases G with
  | mk W b t a n i => exact W.hb
theorem Gm.bag (G : Gm C Hb x p T al kv S ad dx H) : BagAt H p := by
  cases G with
  | mk W b t a n i => exact W.bagH b
theorem Gm.top (G : Gm C Hb x p T al kv S ad dx H) : H T = some (.dK (entKV [0, 1] al)) := by
  cases G with
  | mk W b t a n i => exact W.on _ _ t
theorem Gm.dict (G : Gm C Hb x p T al kv S ad dx H) {q : Int} (hq : q ∈ ([0, 1] : List Int)) : H (al q) = some (.dK (kv q)) := by
  cases G with
  | mk W b t a n i => exact W.on _ _ (a q hq)
theorem Gm.dts (G : Gm C Hb x p T al kv S ad dx H) (sh : ∀ q ∈ ([0, 1] : List Int), (kv q).length ≤ 1000) (B : Tbs S kv) : DTs H T al kv := by
  have h1 := G.top
  have h2 : ∀ q ∈ ([0, 1] : List Int), H (al q) = some (.dK (kv q)) := fun q hq => G.dict hq
  cases G with
  | mk W b t a n i => exact ⟨.inl h1, h2, n, sh, fun q hq => (B.tb q hq).flat⟩
/-- the table of one process is written -/
theorem Gm.put (G : Gm C Hb x p T al kv S ad dx H) {q : Int} {k' : List (Key × V)} (hq : q ∈ ([0, 1] : List Int)) (h : H' (al q) = some (.dK k')) (k : ∀ b u, b ≠ al q → H b = some u → H' b = some u) : Gm C Hb x p T al (fun r => if r = q then k' else kv r) S ad dx H' := by
  cases G with
  | mk W b t a n i =>
    have np := bag_ne b (a q hq)
    refine .mk (W.put (a q hq) h k) ?_ ((upd_ne (Ne.symm (n q hq))).trans t) (fun r hr => ?_) n i
    · obtain ⟨u, v, e, r⟩ := b
      exact ⟨u, v, (upd_ne (Ne.symm np)).trans e, r⟩
    · by_cases z : r = q
      · subst z
        rw [if_pos rfl, upd_same]
      · rw [if_neg z]
        have ne : al r ≠ al q := fun y => by
          simp only [List.mem_cons, List.not_mem_nil, or_false] at hq hr
          rcases hq with rfl | rfl <;> rcases hr with rfl | rfl
          · exact z rfl
          · exact i y.symm
          · exact i y
          · exact z rfl
        exact (upd_ne ne).trans (a r hr)
end
/-- one turn's state: the law's tables are the system's -/
structure Rnd (S : Sys) (lab N : Int) (kv : Int → List (Key × V)) (m : Nat) : Prop where
  G : Gd S lab
  N : S.N = N
  B : Tbs S kv
  sh : ∀ q ∈ ([0, 1] : List Int), (kv q).length ≤ 5 + m
theorem closed_N {S : Sys} {p n t : Int} : (closed S p n t).N = S.N := closed_lim.1
theorem pasted_N {S : Sys} {p t : Int} {m : Nat} : (pasted S p m t).N = S.N := by
  unfold pasted
  split
  · split
    · rfl
    · show (closed S p (m : Int) _).N = S.N
      exact closed_N
  · rfl
theorem Rnd.close {S : Sys} {lab N p n t : Int} {kv : Int → List (Key × V)} {m : Nat} (R : Rnd S lab N kv m) (M : Means S p n t) : Rnd (closed S p n t) lab N (fun r => if r = p then dropK (kv p) (Sum.inl n) else kv r) (m + 1) := by
  have hl := (List.getElem?_eq_some_iff.mp M.at_).1
  refine ⟨R.G.close M, closed_N.trans R.N, ⟨fun q hq => ?_⟩, fun q hq => ?_⟩
  · have := (R.B.tb q hq).close (p := p) (n := n) (t := t) M.lo hl
    by_cases e : q = p
    · subst e
      rw [if_pos rfl] at this ⊢
      exact this
    · rw [if_neg e] at this ⊢
      exact this
  · have := R.sh q hq
    by_cases e : q = p
    · subst e
      rw [if_pos rfl]
      have := dropK_le (kv q) (Sum.inl n)
      omega
    · rw [if_neg e]
      omega
theorem Rnd.paste {S : Sys} {lab N p n t : Int} {k : Nat} {kv : Int → List (Key × V)} {m : Nat} (R : Rnd S lab N kv m) (M : Means S p n t) (hk : (k : Int) < N) : Rnd (pasted S p k t) lab N (fun r => if r = p then putK (kv p) (Sum.inl (k : Int)) (.str (nm t)) else kv r) (m + 1) := by
  have tl := R.G.W.tl p M.pr
  have hN := R.N
  have hl : k < (S.tab p).length := by omega
  refine ⟨R.G.paste M hl tl, pasted_N.trans R.N, ⟨fun q hq => ?_⟩, fun q hq => ?_⟩
  · have := (R.B.tb q hq).paste (p := p) (t := t) hl
    by_cases e : q = p
    · subst e
      rw [if_pos rfl] at this ⊢
      exact this
    · rw [if_neg e] at this ⊢
      exact this
  · have := R.sh q hq
    by_cases e : q = p
    · subst e
      rw [if_pos rfl]
      have := length_putK (kv q) (Sum.inl (k : Int)) (.str (nm t))
      omega
    · rw [if_neg e]
      omega
theorem Rnd.more {S : Sys} {lab N : Int} {kv : Int → List (Key × V)} {m : Nat} (R : Rnd S lab N kv m) : Rnd S lab N kv (m + 1) := ⟨R.G, R.N, R.B, fun q hq => Nat.le_succ_of_le (R.sh q hq)⟩
theorem Rnd.find {S : Sys} {lab N : Int} {kv : Int → List (Key × V)} {m : Nat} (R : Rnd S lab N kv m) {p n : Int} (hp : p ∈ ([0, 1] : List Int)) (n1 : n < N) : (valV (kv p) (Sum.inl n)).isSome = true → ∃ t, Means S p n t ∧ valV (kv p) (Sum.inl n) = some (.str (nm t)) := fun h => by
  have e := (R.B.tb p hp).vl n
  cases hc : cellAt S p n with
  | none => rw [e, hc] at h; cases h
  | some t =>
    rw [hc] at e
    obtain ⟨h0, h1⟩ := cell_of.mp hc
    exact ⟨t, ⟨by rw [R.G.pr]; exact hp, h0, by rw [R.N]; omega, h1⟩, e⟩

section
variable {P : Program} {w : World} {K : PySem.W.Frag} {mg : Str → Option Value} {base : Heap} {C : Cs} {D : Es}
def spLaw (K : PySem.W.Frag) : Sp := fun vs H Q _ => ∃ (a : Addr) (ns : List Int), vs = [.ref a] ∧ SqL K H a (ns.map V.int) ∧ ns.length ≤ 63 ∧ ∀ H', Q (.bl true) H'
abbrev nLaw : List Str := ["_law_script", "_law_at", "_law_bag_here", "_law_turn", "_law_size", "_law_label", "_law_box", "_law_spots", "_law_tables", "_law_copied", "_law_more", "_law_p", "_law_n", "_law_to", "_law_here"]
theorem scLaw : FnScope nLaw ["_law_script"] (defScope sLaw) := ⟨rfl, rfl, rfl, by decide +kernel, rfl, by decide +kernel, by decide +kernel⟩
theorem okLaw {f fB fT fO fR fI : Addr} {fd fdB fdT fdO fdR fdI : FuncData} {g : List Value → List Value → List Value} (F : Fun K "law" "law" sLaw f fd) (X : LawTx mg) (M : Ms P w K mg base C D)
    (gS : mg "System" = some (.ref C.S)) (MS : Mk K C.S fI) (GI : FnOk P w K mg base CX0 3 fI fdI ["self", "processes", "numbers"] (spSysInit C)) (kI : KBn K fdI ["self", "processes", "numbers"] 1 ["processes", "numbers"] g (fun vs zs => vs ++ zs))
    (GB : DO P w K mg base 1 "_law_bag" ["_law_script", "_law_at"] (spBag K) fB fdB) (GT : DO P w K mg base 1 "_law_take" ["_law_bag_here", "_law_many"] spTake fT fdT) (GO : DO P w K mg base 2 "_law_of" ["_law_bag_here", "_law_some"] (spOf K) fO fdO)
    (GR : DO P w K mg base 8 "_law_right" ["_law_box", "_law_tables", "_law_n", "_law_label"] (spRight C) fR fdR) :
    FnOk P w K mg base CX0 9 f fd ["_law_script"] (spLaw K) := by
  obtain ⟨fNs, fdNs, gNs, mNs, bNs⟩ := M.nso
  obtain ⟨fNe, fdNe, gNe, mNe, bNe⟩ := M.nse
  obtain ⟨fAd, fdAd, gAd', gAd, mAd, kAd⟩ := M.add
  obtain ⟨fCp, fdCp, gCp, mCp, bCp⟩ := M.cpy
  obtain ⟨fCl, fdCl, gCl, mCl, bCl⟩ := M.clo
  obtain ⟨fFk, fdFk, gFk, mFk, bFk⟩ := M.frk
  have T := M.T
  refine F.ok scLaw (fun vs H Q E h => ?_) (fun cdv A outer s H vs Q E hr h => ?_)
  · obtain ⟨_, _, rfl, _⟩ := h
    rfl
  · obtain ⟨a, ns, rfl, hS, hl, k⟩ := h
    have hu1 := hu_of hr
    have r1 : Room 1 _ := hr.mono (by decide)
    have r2 : Room 2 _ := hr.mono (by decide)
    have r4 : Room 4 _ := hr.mono (by decide)
    have r5 : Room 5 _ := hr.mono (by decide)
    have r6 : Room 6 _ := hr.mono (by decide)
    refine ⟨_, pss_cut (ps_for PassesOwn.never rfl (pi_range1 (by rfl) X.range (pa_cons (pe_callB (cMax2 rfl) (by rfl) X.max (by decide +kernel) (pa_cons pe_int (pa_cons (pe_callB (cMin2 rfl) (by rfl) X.min (by decide +kernel) (pa_cons pe_int (pa_cons (pe_callB cLenQ (by rfl) X.len PySem.boot_len (pa_cons (pv 0) pa_nil)) pa_nil))) pa_nil))) pa_nil)) (pg_name (i := 1) scLaw.nd rfl (Or.inl rfl))
      (pss_cut (ps_set (i := 2) scLaw.nd rfl (Or.inl rfl) (pe_call GB.g r1 (by rfl) GB.m GB.k GB.b .nil pass0 (pa_cons (pv 0) (pa_cons (pv 1) pa_nil))))
      (pss_one (ps_for PassesOwn.never rfl (pi_range1 (by rfl) X.range (pa_cons pe_int pa_nil)) (pg_name (i := 3) scLaw.nd rfl (Or.inl rfl))
      (pss_cut (ps_par (i := 4) (j := 5) (by rfl) scLaw.nd rfl rfl (by decide) rfl rfl (pa_cons (pe_op op_add pe_int (pe_call GT.g r1 (by rfl) GT.m GT.k GT.b .nil pass0 (pa_cons (pv 2) (pa_cons pe_int pa_nil)))) (pa_cons (pe_call GT.g r1 (by rfl) GT.m GT.k GT.b .nil pass0 (pa_cons (pv 2) (pa_cons pe_int pa_nil))) pa_nil)) (by rfl))
      (pss_cut (ps_set (i := 6) scLaw.nd rfl (Or.inl rfl) (pe_makeK0 (ks := ["processes", "numbers"]) MS GI r4 (by rfl) gS kI pass0 (pk_cons pe_int (pk_cons (pv 4) pk_nil))))
      (pss_cut (ps_set (i := 7) scLaw.nd rfl (Or.inl rfl) (pe_lst (pa_cons (pe_meth (pv 6) T.cl mNe gNe r6 bNe .nil passN (pa_cons pe_int pa_nil)) (pa_cons (pe_meth (pv 6) T.cl mNs gNs r6 bNs .nil passN (pa_cons pe_int pa_nil)) (pa_cons (pe_meth (pv 6) T.cl mNs gNs r6 bNs .nil passN (pa_cons pe_int pa_nil)) pa_nil)))))
      (pss_cut (ps_set (i := 8) scLaw.nd rfl (Or.inl rfl) (pe_disp (pps_cons pe_int (pe_disp (pps_cons pe_int pe_str (pps_cons pe_int pe_str (pps_cons pe_int pe_str pps_nil))) (by rfl) (by rfl) (fun z => by cases z) (by decide)) pps_nil) (by rfl) (by rfl) (fun z => by cases z) (by decide)))
      (pss_cut (ps_expr (pe_methK (pv 6) T.cl mAd gAd r6 kAd passN (pa_cons pe_int (pa_cons (pe_ix ix_list (pv 7) pe_int (fun _ _ => rfl)) (pa_cons (pe_ix ix_list (pv 7) pe_int (fun _ _ => rfl)) (pa_cons (pv 5) pa_nil)))) (pk_cons (pe_call GO.g r2 (by rfl) GO.m GO.k GO.b .nil pass0 (pa_cons (pv 2) (pa_cons (pe_lst (pa_cons pe_str (pa_cons pe_str (pa_cons pe_str pa_nil)))) pa_nil))) pk_nil)))
      (pss_cut (ps_if (pt_cmpR op_eq (pe_call GT.g r1 (by rfl) GT.m GT.k GT.b .nil pass0 (pa_cons (pv 2) (pa_cons pe_int pa_nil))) pe_int (nomark _))
        (pss_cut (ps_set (i := 9) scLaw.nd rfl (Or.inl rfl) (pe_call GT.g r1 (by rfl) GT.m GT.k GT.b .nil pass0 (pa_cons (pv 2) (pa_cons pe_int pa_nil))))
        (pss_cut (ps_expr (pe_meth (pv 6) T.cl mCp gCp r5 bCp .nil passN (pa_cons pe_int (pa_cons (pv 9) (pa_cons pe_int pa_nil)))))
        (pss_one (ps_set (i := 8) scLaw.nd rfl (Or.inl rfl) (pe_disp (pps_cons pe_int (pe_disp (pps_cons pe_int pe_str (pps_cons pe_int pe_str (pps_cons pe_int pe_str (pps_cons pe_int (pe_ix ix_list (pe_lst (pa_cons pe_str (pa_cons pe_str pa_nil))) (pv 9) (fun _ _ => rfl)) pps_nil)))) (by rfl) (by rfl) (fun z => by cases z) (by decide)) pps_nil) (by rfl) (by rfl) (fun z => by cases z) (by decide)))))) pss_nil)
      (pss_cut (ps_expr (pe_meth (pv 6) T.cl mFk gFk r4 bFk .nil passN (pa_cons pe_int pa_nil)))
      (pss_cut (ps_set (i := 8) scLaw.nd rfl (Or.inl rfl) (pe_disp (pps_cons pe_int (pe_dget hu1 (pv 8) pe_int (fun _ _ => rfl)) (pps_cons pe_int (pe_callTy call_dictD (by rfl) X.dict (by decide +kernel) (pa_cons (pe_dget hu1 (pv 8) pe_int (fun _ _ => rfl)) pa_nil)) pps_nil)) (by rfl) (by rfl) (fun z => by cases z) (by decide)))
      (pss_one (ps_for PassesOwn.never rfl (pi_range1 (by rfl) X.range (pa_cons (pe_call GT.g r1 (by rfl) GT.m GT.k GT.b .nil pass0 (pa_cons (pv 2) (pa_cons pe_int pa_nil))) pa_nil)) (pg_name (i := 10) scLaw.nd rfl (Or.inl rfl))
        (pss_cut (ps_par3 (i := 11) (j := 12) (l := 13) (by rfl) scLaw.nd rfl rfl rfl (by decide) (by decide) (by decide) rfl rfl rfl (pa_cons (pe_call GT.g r1 (by rfl) GT.m GT.k GT.b .nil pass0 (pa_cons (pv 2) (pa_cons pe_int pa_nil))) (pa_cons (pe_call GT.g r1 (by rfl) GT.m GT.k GT.b .nil pass0 (pa_cons (pv 2) (pa_cons (pv 4) pa_nil))) (pa_cons (pe_call GT.g r1 (by rfl) GT.m GT.k GT.b .nil pass0 (pa_cons (pv 2) (pa_cons (pv 4) pa_nil))) pa_nil))) (by rfl))
        (pss_cut (ps_set (i := 14) scLaw.nd rfl (Or.inl rfl) (pe_dget hu1 (pv 8) (pv 11) (fun _ _ => rfl)))
        (pss_cut (ps_if (PW.pt (pw_and (pt_cmpR op_eq (pe_call GT.g r1 (by rfl) GT.m GT.k GT.b .nil pass0 (pa_cons (pv 2) (pa_cons pe_int pa_nil))) pe_int (nomark _)) (pw_and1 (pt_cmp (pc_din hu1 (pv 12) (pv 14)) rfl))))
          (pss_cut (ps_expr (pe_meth (pv 6) T.cl mCl gCl r5 bCl .nil passN (pa_cons (pv 11) (pa_cons (pv 12) pa_nil)))) (pss_one (ps_expr (pe_dpop1 (pv 14) (pv 12) ⟨rfl, rfl, rfl, rfl⟩))))
          (pss_one (ps_if (pt_cmp (pc_din hu1 (pv 12) (pv 14)) rfl) (pss_cut (ps_expr (pe_meth (pv 6) T.cl mCp gCp r5 bCp .nil passN (pa_cons (pv 11) (pa_cons (pv 12) (pa_cons (pv 13) pa_nil))))) (pss_one (ps_dput hu1 (pv 14) (pv 13) (pe_dget hu1 (pv 14) (pv 12) (fun _ _ => rfl)) rfl))) pss_nil)))
        (pss_one (ps_if (pt_not (pt_val (pe_call GR.g hr (by rfl) GR.m GR.k GR.b .nil pass0 (pa_cons (pv 6) (pa_cons (pv 8) (pa_cons pe_int (pa_cons (pv 5) pa_nil))))))) (pss_one (ps_ret pe_bl)) pss_nil)))))))))))))))))))
      (pss_one (ps_ret pe_bl)), ?_⟩
    have fl : ∀ {H : Hp} {i : Int}, 0 ≤ i → i ≤ 1000000 → Flat H (.int i) := fun h1 h2 => fl_int (by omega) h2
    refine ⟨fun σ' H' => ∃ u1 u2 u3 u4 u5 u6 u7 u8 u9 u10 u11 u12 u13 u14 : Option V, σ' = [some (.ref a), u1, u2, u3, u4, u5, u6, u7, u8, u9, u10, u11, u12, u13, u14], ?_, ?_⟩
    · walk_at "wn"
      show iRng1 _ _ _ _
      show tCons _ _ _ _ _
      walk_at "wn"
      refine ⟨a, _, rfl, .inl hS, ?_⟩
      walk_at "wn"
      refine ⟨_, rfl, ?_, ?_, ?_⟩
      · split <;> split <;> omega
      · split <;> split <;> omega
      refine for_range (lo := 0) (fun i σ' H' => ∃ u1 u2 u3 u4 u5 u6 u7 u8 u9 u10 u11 u12 u13 u14 : Option V, σ' = [some (.ref a), u1, u2, u3, u4, u5, u6, u7, u8, u9, u10, u11, u12, u13, u14] ∧ SqL K H' a (ns.map V.int)) ⟨_, _, _, _, _, _, _, _, _, _, _, _, _, _, rfl, hS⟩ ?_ (fun _ _ ⟨u1, u2, u3, u4, u5, u6, u7, u8, u9, u10, u11, u12, u13, u14, e, _⟩ => ⟨u1, u2, u3, u4, u5, u6, u7, u8, u9, u10, u11, u12, u13, u14, e⟩)
      rintro i σ' Hb hi ⟨u1, u2, u3, u4, u5, u6, u7, u8, u9, u10, u11, u12, u13, u14, rfl, hSb⟩
      have hi100 : i ≤ 100 := by revert hi; split <;> split <;> omega
      refine ⟨fun σ' H1 => ∃ p : Addr, σ' = [some (.ref a), some (.int (0 + (i : Int))), some (.ref p), u3, u4, u5, u6, u7, u8, u9, u10, u11, u12, u13, u14] ∧ Hb p = none ∧ Same Hb H1 ∧ BagAt H1 p, ?_, ?_⟩
      · walk_at "wn"
        refine ⟨a, ns, i, by simp, hSb, hl, hi100, fun H1 p n0 s1 b1 => ?_⟩
        walk_at "wn"
        exact ⟨p, rfl, n0, s1, b1⟩
      rintro σ' H1 ⟨p, rfl, n0, s1, b1⟩
      show iRng1 _ _ _ _
      show tCons _ _ _ _ _
      walk_at "wn"
      refine ⟨3, rfl, by decide, by decide, ?_⟩
      refine for_range (lo := 0) (fun j σ' H' => ∃ u3 u4 u5 u6 u7 u8 u9 u10 u11 u12 u13 u14 : Option V, σ' = [some (.ref a), some (.int (0 + (i : Int))), some (.ref p), u3, u4, u5, u6, u7, u8, u9, u10, u11, u12, u13, u14] ∧ Same Hb H' ∧ BagAt H' p) ⟨_, _, _, _, _, _, _, _, _, _, _, _, rfl, s1, b1⟩ ?_ (fun σ' H' ⟨u3, u4, u5, u6, u7, u8, u9, u10, u11, u12, u13, u14, e, sm, _⟩ => ⟨_, _, u3, u4, u5, u6, u7, u8, u9, u10, u11, u12, u13, u14, e, Same.seq sm hSb⟩)
      clear s1 b1 u3 u4 u5 u6 u7 u8 u9 u10 u11 u12 u13 u14
      rintro j σ' H2 hj ⟨u3, u4, u5, u6, u7, u8, u9, u10, u11, u12, u13, u14, rfl, s2, b2⟩
      walk_at "wn"
      refine ⟨fun σ' H3 => ∃ N lab : Int, σ' = [some (.ref a), some (.int (0 + (i : Int))), some (.ref p), some (.int (0 + (j : Int))), some (.int N), some (.int lab), u6, u7, u8, u9, u10, u11, u12, u13, u14] ∧ NOk N ∧ 0 ≤ lab ∧ lab ≤ 999 ∧ Same Hb H3 ∧ BagAt H3 p, ?_, ?_⟩
      · unfold tPar
        walk_at "wn"
        refine ⟨p, 3, rfl, b2, by decide, by decide, fun z H3 z0 z1 e3 b3 => ?_⟩
        walk_at "wn"
        refine ⟨p, 1000, rfl, b3, by decide, by decide, fun lab H4 l0 l1 e4 b4 => ?_⟩
        walk_at "wn"
        refine ⟨_, _, rfl, ?_⟩
        refine ⟨4 + z, lab, rfl, by omega, l0, by omega, fun b o h => ?_, b4⟩
        have nb : b ≠ p := ne_of_none h n0
        rw [e4 b nb, e3 b nb]
        exact s2 _ _ h
      clear s2 b2 u3 u4 u5
      rintro σ' H3 ⟨N, lab, rfl, hN, l0, l1, s3, b3⟩
      have N4 : 4 ≤ N ∧ N ≤ 6 := by rcases hN with z | z | z <;> omega
      refine ⟨fun σ' H4 => ∃ (x : Addr) (O : Hp) (ad dx : Cell → Addr), σ' = [some (.ref a), some (.int (0 + (i : Int))), some (.ref p), some (.int (0 + (j : Int))), some (.int N), some (.int lab), some (.ref x), u7, u8, u9, u10, u11, u12, u13, u14] ∧ LW C Hb x H4 (newSys 2 N) ad dx O ∧ BagAt O p, ?_, ?_⟩
      · walk_at "wn"
        refine ⟨_, rfl, rfl, rfl, fun x dx0 hx hd nd => ?_⟩
        refine ⟨x, dx0, 2, N, rfl, upd_same, by decide, by decide, by omega, by omega, fun H4 ad dx hbx A4 k4 n4 => ⟨rfl, ?_⟩⟩
        obtain ⟨y, z, hp1, hpr⟩ := b3
        have on1 : ∀ b o, upd (fun _ => none) p (HO.lst [.int y, .int z]) b = some o → b = p ∧ o = .lst [.int y, .int z] := fun b o e => by
          by_cases z : b = p
          · rw [z, upd_same] at e
            exact ⟨z, (Option.some.inj e).symm⟩
          · rw [upd_ne z] at e
            cases e
        have W4 : LW C Hb x H4 (newSys 2 N) ad dx (upd (fun _ => none) p (.lst [.int y, .int z])) := LW.start (dx0 := dx0) s3 (fun b o e => by
            obtain ⟨rfl, rfl⟩ := on1 b o e
            exact hp1) (fun b o e => by
            obtain ⟨rfl, rfl⟩ := on1 b o e
            exact n0) hx hd (fun b e1 e2 => by rw [upd_ne e1, upd_ne e2]) A4 hbx k4 n4
        walk_at "wn"
        exact ⟨x, _, ad, dx, rfl, W4, ⟨y, z, upd_same, hpr⟩⟩
      clear s3 b3 u6
      rintro σ' H4 ⟨x, O4, ad4, dx4, rfl, W4, b4⟩
      refine ⟨fun σ' H5 => ∃ (sp : Addr) (O : Hp) (ad dx : Cell → Addr), σ' = [some (.ref a), some (.int (0 + (i : Int))), some (.ref p), some (.int (0 + (j : Int))), some (.int N), some (.int lab), some (.ref x), some (.ref sp), u8, u9, u10, u11, u12, u13, u14] ∧ LW C Hb x H5 (B3 N) ad dx O ∧ BagAt O p ∧ O sp = some (.lst [.int 0, .int 1, .int 2]), ?_, ?_⟩
      · walk_at "wn"
        refine ⟨_, rfl, x, dx4 .box, _, rfl, W4.hb, rfl, ?_⟩
        walk_at "wn"
        refine ⟨.int 0, newSys 2 N, ad4, dx4, by rw [W4.box]; rfl, W4.at_, B0.wf hN, fl (by decide) (by decide), res_ok (freeOf_of (List.mem_singleton_self _) (ff0 hN)) fun H5 ad5 dx5 A5 st5 => ?_⟩
        have W5 := W4.step A5 st5
        walk_at "wn"
        refine ⟨_, rfl, x, dx5 .box, _, rfl, W5.hb, rfl, ?_⟩
        walk_at "wn"
        refine ⟨.int 0, B1 N, ad5, dx5, by rw [W5.box]; rfl, W5.at_, B1.wf hN, fl (by decide) (by decide), res_ok (freeOf_of (List.mem_singleton_self _) (ff1 hN)) fun H6 ad6 A6 st6 => ?_⟩
        have W6 := W5.step A6 st6
        walk_at "wn"
        refine ⟨_, rfl, x, dx5 .box, _, rfl, W6.hb, rfl, ?_⟩
        walk_at "wn"
        refine ⟨.int 0, B2 N, ad6, dx5, by rw [W6.box]; rfl, W6.at_, B2.wf hN, fl (by decide) (by decide), res_ok (freeOf_of (List.mem_singleton_self _) (ff2 hN)) fun H7 ad7 A7 st7 => ?_⟩
        have W7 := W6.step A7 st7
        walk_at "wn"
        refine ⟨by show 3 ≤ sizeLine; decide, fun sp hsp => ?_⟩
        have W8 := W7.new (H' := upd H7 sp (.lst [.int 0, .int 1, .int 2])) hsp upd_same (Same.new' hsp)
        have fr := W7.fresh hsp
        walk_at "wn"
        refine ⟨sp, _, ad7, dx5, rfl, W8, ?_, upd_same⟩
        obtain ⟨y, z, e, r⟩ := b4
        exact ⟨y, z, (upd_ne fun q => by rw [q, fr] at e; cases e).trans e, r⟩
      clear W4 b4 u7 O4 ad4 dx4
      rintro σ' H5 ⟨sp, O5, ad5, dx5, rfl, W5, b5, hsp5⟩
      refine ⟨fun σ' H6 => ∃ (T1 d : Addr) (O : Hp) (ad dx : Cell → Addr), σ' = [some (.ref a), some (.int (0 + (i : Int))), some (.ref p), some (.int (0 + (j : Int))), some (.int N), some (.int lab), some (.ref x), some (.ref sp), some (.ref T1), u9, u10, u11, u12, u13, u14] ∧ LW C Hb x H6 (B3 N) ad dx O ∧ BagAt O p ∧ O sp = some (.lst [.int 0, .int 1, .int 2]) ∧ O T1 = some (.dK [(Sum.inl 0, .ref d)]) ∧ O d = some (.dK kv3), ?_, ?_⟩
      · walk_at "wn"
        intro T1 hT1
        intro d hd
        have nd : d ≠ T1 := fun z => by rw [z, upd_same] at hd; cases hd
        have hd5 : H5 d = none := by rw [upd_ne nd] at hd; exact hd
        refine ⟨upd_same, kv3, rfl, by decide, ?_⟩
        refine ⟨by rw [upd_ne (Ne.symm nd), upd_ne (Ne.symm nd)]; exact upd_same, [(Sum.inl 0, .ref d)], rfl, by show 1 ≤ 15; decide, ?_⟩
        have e1 : upd (upd (upd (upd H5 T1 (.dK [])) d (.dK [])) d (.dK (mergeK [] kv3))) T1 (.dK (mergeK [] [(Sum.inl 0, .ref d)])) d = some (.dK kv3) := by rw [upd_ne nd, upd_same]; rfl
        have e2 : upd (upd (upd (upd H5 T1 (.dK [])) d (.dK [])) d (.dK (mergeK [] kv3))) T1 (.dK (mergeK [] [(Sum.inl 0, .ref d)])) T1 = some (.dK [(Sum.inl 0, .ref d)]) := upd_same
        have sF : Same H5 (upd (upd (upd (upd H5 T1 (.dK [])) d (.dK [])) d (.dK (mergeK [] kv3))) T1 (.dK (mergeK [] [(Sum.inl 0, .ref d)]))) := fun b o h => by
          have n1 := ne_of_none h hT1
          have n2 := ne_of_none h hd5
          rw [upd_ne n1, upd_ne n2, upd_ne n2, upd_ne n1]
          exact h
        generalize upd (upd (upd (upd H5 T1 (.dK [])) d (.dK [])) d (.dK (mergeK [] kv3))) T1 (.dK (mergeK [] [(Sum.inl 0, .ref d)])) = H6 at e1 e2 sF ⊢
        have W6 := W5.new2 hd5 hT1 nd e1 e2 sF
        have f1 := W5.fresh hT1
        have f2 := W5.fresh hd5
        walk_at "wn"
        refine ⟨T1, d, _, ad5, dx5, rfl, W6, bag_upd (bag_upd b5 (W5.bagN b5 hd5)) (W5.bagN b5 hT1), ?_, upd_same, ?_⟩
        · rw [upd_ne (fun z => by rw [z, f1] at hsp5; cases hsp5), upd_ne (fun z => by rw [z, f2] at hsp5; cases hsp5)]
          exact hsp5
        · rw [upd_ne nd, upd_same]
      clear W5 b5 hsp5 u8 O5 ad5 dx5
      rintro σ' H6 ⟨T1, d, O6, ad6, dx6, rfl, W6, b6, hsp6, hT6, hd6⟩
      refine ⟨fun σ' H' => ∃ (wd : Str) (O : Hp) (ad dx : Cell → Addr), σ' = [some (.ref a), some (.int (0 + (i : Int))), some (.ref p), some (.int (0 + (j : Int))), some (.int N), some (.int lab), some (.ref x), some (.ref sp), some (.ref T1), u9, u10, u11, u12, u13, u14] ∧ wd ∈ wordsL ∧ LW C Hb x H' (B4 N lab wd) ad dx O ∧ BagAt O p ∧ O T1 = some (.dK [(Sum.inl 0, .ref d)]) ∧ O d = some (.dK kv3), ?_, ?_⟩
      · have hspH := W6.on _ _ hsp6
        walk_at "wn"
        refine ⟨_, rfl, x, dx6 .box, _, rfl, W6.hb, rfl, ?_⟩
        walk_at "wn"
        refine ⟨by show 3 ≤ sizeLine; decide, fun L hL => ?_⟩
        have s7 := Same.new' (o := .lst [.str "level", .str "edge", .str "once"]) hL
        have W7 := W6.same s7
        walk_at "wn"
        refine ⟨p, L, [.str "level", .str "edge", .str "once"], rfl, W7.bagH b6, SqL.of upd_same, Ne.symm (W6.bagN b6 hL), by decide, by decide, fun q v H8 hv e8 b8 => ?_⟩
        obtain ⟨xs, b9, W9⟩ := W7.draw b6 e8 b8
        obtain ⟨wd, rfl, hw, fw⟩ : ∃ wd : Str, v = .str wd ∧ wd ∈ wordsL ∧ Flat H8 (.str wd) := by
          match q, hv with
          | 0, hv => exact ⟨_, (Option.some.inj hv).symm, by decide, .str _ (by decide) (by decide +kernel)⟩
          | 1, hv => exact ⟨_, (Option.some.inj hv).symm, by decide, .str _ (by decide) (by decide +kernel)⟩
          | 2, hv => exact ⟨_, (Option.some.inj hv).symm, by decide, .str _ (by decide) (by decide +kernel)⟩
        walk_at "wn"
        refine ⟨rfl, rfl, .int 0, .int 0, .int 1, .int lab, .str wd, B3 N, ad6, dx6, by rw [W9.box]; rfl, W9.at_, B3.wf hN, fl (by decide) (by decide), fl (by decide) (by decide), fl (by decide) (by decide), fl l0 (by omega), fw, rfl, res_ok (B3.add hN l0 (by omega) hw) fun H10 ad10 dx10 A10 st10 => ?_⟩
        have W10 := W9.step A10 st10
        walk_at "wn"
        exact ⟨wd, _, ad10, dx10, rfl, hw, W10, b9, (upd_ne (bag_ne b6 hT6)).trans hT6, (upd_ne (bag_ne b6 hd6)).trans hd6⟩
      clear W6 b6 hsp6 hT6 hd6 O6 ad6 dx6
      rintro σ' H7 ⟨wd, O7, ad7, dx7, rfl, hw, W7, b7, hT7, hd7⟩
      have X7 : Pre (B4 N lab wd) lab N kv3 := B4.pre hN l0 (by omega) hw
      refine ⟨fun σ' H' => ∃ (T d : Addr) (k3 : List (Key × V)) (S : Sys) (O : Hp) (ad dx : Cell → Addr) (u9 : Option V), σ' = [some (.ref a), some (.int (0 + (i : Int))), some (.ref p), some (.int (0 + (j : Int))), some (.int N), some (.int lab), some (.ref x), some (.ref sp), some (.ref T), u9, u10, u11, u12, u13, u14] ∧ Pre S lab N k3 ∧ LW C Hb x H' S ad dx O ∧ BagAt O p ∧ O T = some (.dK [(Sum.inl 0, .ref d)]) ∧ O d = some (.dK k3), ?_, ?_⟩
      · walk_at "wn"
        refine ⟨p, 2, rfl, W7.bagH b7, by decide, by decide, fun z H8 z0 z1 e8 b8 => ?_⟩
        obtain ⟨xs, b9, W9⟩ := W7.draw b7 e8 b8
        have hT9 := (upd_ne (o := .lst xs) (bag_ne b7 hT7)).trans hT7
        have hd9 := (upd_ne (o := .lst xs) (bag_ne b7 hd7)).trans hd7
        generalize upd O7 p (.lst xs) = O9 at b9 W9 hT9 hd9
        clear W7 b7 hT7 hd7 e8 b8 O7 H7
        walk_at "wn"
        by_cases hz : z = 0
        · rw [decide_eq_true (show V.int z = V.int 0 by rw [hz])]
          refine iteT ?_
          refine ⟨fun σ' H' => ∃ (t : Int) (O : Hp), σ' = [some (.ref a), some (.int (0 + (i : Int))), some (.ref p), some (.int (0 + (j : Int))), some (.int N), some (.int lab), some (.ref x), some (.ref sp), some (.ref T1), some (.int t), u10, u11, u12, u13, u14] ∧ (t = 0 ∨ t = 1) ∧ LW C Hb x H' (B4 N lab wd) ad7 dx7 O ∧ BagAt O p, ?_, ?_⟩
          · walk_at "wn"
            refine ⟨p, 2, rfl, W9.bagH b9, by decide, by decide, fun t H10 t0 t1 e10 b10 => ?_⟩
            obtain ⟨ys, b11, W11⟩ := W9.draw b9 e10 b10
            walk_at "wn"
            exact ⟨t, _, rfl, by omega, W11, b11⟩
          clear W9 b9 hT9 hd9 O9 u9
          rintro σ' H10 ⟨t, O10, rfl, ht, W10, b10⟩
          refine ⟨fun σ' H' => ∃ (ad : Cell → Addr), σ' = [some (.ref a), some (.int (0 + (i : Int))), some (.ref p), some (.int (0 + (j : Int))), some (.int N), some (.int lab), some (.ref x), some (.ref sp), some (.ref T1), some (.int t), u10, u11, u12, u13, u14] ∧ LW C Hb x H' (pasted (B4 N lab wd) 0 3 t) ad dx7 O10, ?_, ?_⟩
          · walk_at "wn"
            refine ⟨_, rfl, x, dx7 .box, _, rfl, W10.hb, rfl, ?_⟩
            walk_at "wn"
            refine ⟨.int 0, .int t, .int 3, B4 N lab wd, ad7, dx7, by rw [W10.box]; rfl, W10.at_, X7.W, fl (by decide) (by decide), fl (by omega) (by omega), fl (by decide) (by decide), res_ok (X7.copy hN ht) fun H11 ad11 A11 st11 => ?_⟩
            walk_at "wn"
            exact ⟨ad11, rfl, W10.step A11 st11⟩
          clear W10
          rintro σ' H11 ⟨ad11, rfl, W11⟩
          have X11 := X7.paste hN ht (B4.free3 hN) (by decide)
          walk_at "wn"
          intro T2 hT2
          intro d2 hd2
          have nd : d2 ≠ T2 := fun z => by rw [z, upd_same] at hd2; cases hd2
          have hd5 : H11 d2 = none := by rw [upd_ne nd] at hd2; exact hd2
          refine ⟨by decide, fun L hL => ?_⟩
          have nL1 : L ≠ d2 := fun z => by rw [z, upd_same] at hL; cases hL
          have hL2 : upd H11 T2 (.dK []) L = none := by rw [upd_ne nL1] at hL; exact hL
          have nL2 : L ≠ T2 := fun z => by rw [z, upd_same] at hL2; cases hL2
          have hL3 : H11 L = none := by rw [upd_ne nL2] at hL2; exact hL2
          refine ⟨_, rfl, L, [.str "set", .str "source"], t, .str (nm t), rfl, rfl, SqL.of upd_same, by rcases ht with rfl | rfl <;> rfl, ?_⟩
          refine ⟨by rw [upd_ne (Ne.symm nL1)]; exact upd_same, kv3 ++ [(Sum.inl 3, .str (nm t))], rfl, by show 4 ≤ 15; decide, ?_⟩
          refine ⟨by rw [upd_ne (Ne.symm nd), upd_ne (Ne.symm nL2), upd_ne (Ne.symm nd)]; exact upd_same, [(Sum.inl 0, .ref d2)], rfl, by show 1 ≤ 15; decide, ?_⟩
          have e1 : upd (upd (upd (upd (upd H11 T2 (.dK [])) d2 (.dK [])) L (.lst [.str "set", .str "source"])) d2 (.dK (mergeK [] (kv3 ++ [(Sum.inl 3, .str (nm t))])))) T2 (.dK (mergeK [] [(Sum.inl 0, .ref d2)])) d2 = some (.dK (putK kv3 (Sum.inl 3) (.str (nm t)))) := by rw [upd_ne nd, upd_same]; rfl
          have e2 : upd (upd (upd (upd (upd H11 T2 (.dK [])) d2 (.dK [])) L (.lst [.str "set", .str "source"])) d2 (.dK (mergeK [] (kv3 ++ [(Sum.inl 3, .str (nm t))])))) T2 (.dK (mergeK [] [(Sum.inl 0, .ref d2)])) T2 = some (.dK [(Sum.inl 0, .ref d2)]) := upd_same
          have sF : Same H11 (upd (upd (upd (upd (upd H11 T2 (.dK [])) d2 (.dK [])) L (.lst [.str "set", .str "source"])) d2 (.dK (mergeK [] (kv3 ++ [(Sum.inl 3, .str (nm t))])))) T2 (.dK (mergeK [] [(Sum.inl 0, .ref d2)]))) := fun b o h => by
            have n1 := ne_of_none h hT2
            have n2 := ne_of_none h hd5
            have n3 := ne_of_none h hL3
            rw [upd_ne n1, upd_ne n2, upd_ne n3, upd_ne n2, upd_ne n1]
            exact h
          generalize upd (upd (upd (upd (upd H11 T2 (.dK [])) d2 (.dK [])) L (.lst [.str "set", .str "source"])) d2 (.dK (mergeK [] (kv3 ++ [(Sum.inl 3, .str (nm t))])))) T2 (.dK (mergeK [] [(Sum.inl 0, .ref d2)])) = H12 at e1 e2 sF ⊢
          have W12 := W11.new2 hd5 hT2 nd e1 e2 sF
          walk_at "wn"
          exact ⟨T2, d2, _, _, _, ad11, dx7, _, rfl, X11, W12, bag_upd (bag_upd b10 (W11.bagN b10 hd5)) (W11.bagN b10 hT2), upd_same, (upd_ne nd).trans upd_same⟩
        · rw [decide_eq_false (show ¬ V.int z = V.int 0 from fun y => hz (V.int.inj y))]
          refine iteF ?_
          walk_at "wn"
          exact ⟨T1, d, _, _, O9, ad7, dx7, _, rfl, X7, W9, b9, hT9, hd9⟩
      clear X7 W7 b7 hT7 hd7 O7 ad7 dx7 u9 hw wd d T1
      rintro σ' H8 ⟨T, d, k3, S8, O8, ad8, dx8, u9, rfl, X8, W8, b8, hT8, hd8⟩
      obtain ⟨fk, G8, B8⟩ := X8.fork
      refine ⟨fun σ' H' => ∃ (ad : Cell → Addr), σ' = [some (.ref a), some (.int (0 + (i : Int))), some (.ref p), some (.int (0 + (j : Int))), some (.int N), some (.int lab), some (.ref x), some (.ref sp), some (.ref T), u9, u10, u11, u12, u13, u14] ∧ LW C Hb x H' (forked S8 0 1) ad dx8 O8, ?_, ?_⟩
      · walk_at "wn"
        refine ⟨_, rfl, x, dx8 .box, _, rfl, W8.hb, rfl, ?_⟩
        walk_at "wn"
        refine ⟨.int 0, S8, ad8, dx8, by rw [W8.box]; rfl, W8.at_, X8.W, fl (by decide) (by decide), res_ok fk fun H9 ad9 A9 st9 => ?_⟩
        walk_at "wn"
        exact ⟨ad9, rfl, W8.step A9 st9⟩
      clear W8 ad8
      rintro σ' H9 ⟨ad9, rfl, W9⟩
      have N9 : (forked S8 0 1).N = N := X8.N
      have sh9 := X8.short
      generalize forked S8 0 1 = S9 at G8 B8 W9 N9
      clear fk X8 S8
      refine ⟨fun σ' H' => ∃ (T : Addr) (al : Int → Addr) (kv : Int → List (Key × V)) (ad dx : Cell → Addr), σ' = [some (.ref a), some (.int (0 + (i : Int))), some (.ref p), some (.int (0 + (j : Int))), some (.int N), some (.int lab), some (.ref x), some (.ref sp), some (.ref T), u9, u10, u11, u12, u13, u14] ∧ Gm C Hb x p T al kv S9 ad dx H' ∧ Rnd S9 lab N kv 0, ?_, ?_⟩
      · have hTH := W9.on _ _ hT8
        have hdH := W9.on _ _ hd8
        walk_at "wn"
        intro T2 hT2
        have nT2 : T ≠ T2 := ne_of_none hTH hT2
        have nd2 : d ≠ T2 := ne_of_none hdH hT2
        have gd : DGet (upd H9 T2 (.dK [])) T (.int 0) (some (.ref d)) := DGet.k (k := Sum.inl 0) ((upd_ne nT2).trans hTH)
        refine ⟨_, rfl, T, _, rfl, gd, ?_⟩
        refine ⟨_, rfl, T, _, rfl, gd, ?_⟩
        refine ⟨d, k3, rfl, .inl ((upd_ne nd2).trans hdH), fun d1 hd1 => ?_⟩
        have n1 : d1 ≠ T2 := fun z => by rw [z, upd_same] at hd1; cases hd1
        have hd1' : H9 d1 = none := by rw [upd_ne n1] at hd1; exact hd1
        refine ⟨by rw [upd_ne (Ne.symm n1)]; exact upd_same, [(Sum.inl 0, .ref d), (Sum.inl 1, .ref d1)], rfl, by show 2 ≤ 15; decide, ?_⟩
        have e1 : upd (upd (upd H9 T2 (.dK [])) d1 (.dK k3)) T2 (.dK (mergeK [] [(Sum.inl 0, .ref d), (Sum.inl 1, .ref d1)])) d1 = some (.dK k3) := by rw [upd_ne n1, upd_same]
        have e2 : upd (upd (upd H9 T2 (.dK [])) d1 (.dK k3)) T2 (.dK (mergeK [] [(Sum.inl 0, .ref d), (Sum.inl 1, .ref d1)])) T2 = some (.dK [(Sum.inl 0, .ref d), (Sum.inl 1, .ref d1)]) := upd_same
        have sF : Same H9 (upd (upd (upd H9 T2 (.dK [])) d1 (.dK k3)) T2 (.dK (mergeK [] [(Sum.inl 0, .ref d), (Sum.inl 1, .ref d1)]))) := fun b o h => by
          have m1 := ne_of_none h hT2
          have m2 := ne_of_none h hd1'
          rw [upd_ne m1, upd_ne m2, upd_ne m1]
          exact h
        generalize upd (upd (upd H9 T2 (.dK [])) d1 (.dK k3)) T2 (.dK (mergeK [] [(Sum.inl 0, .ref d), (Sum.inl 1, .ref d1)])) = H10 at e1 e2 sF ⊢
        have W10 := W9.new2 hd1' hT2 n1 e1 e2 sF
        have ndd : d ≠ d1 := ne_of_none hdH hd1'
        walk_at "wn"
        refine ⟨T2, fun q => if q = 0 then d else d1, fun _ => k3, ad9, dx8, rfl, .mk W10 (bag_upd (bag_upd b8 (W9.bagN b8 hd1')) (W9.bagN b8 hT2)) upd_same (fun q hq => ?_) (fun q hq => ?_) ndd, ⟨G8, N9, ⟨B8⟩, fun q _ => sh9⟩⟩
        · simp only [List.mem_cons, List.not_mem_nil, or_false] at hq
          rcases hq with rfl | rfl
          · show upd (upd O8 d1 (.dK k3)) T2 _ d = _
            rw [upd_ne nd2, upd_ne ndd]
            exact hd8
          · show upd (upd O8 d1 (.dK k3)) T2 _ d1 = _
            rw [upd_ne n1, upd_same]
        · simp only [List.mem_cons, List.not_mem_nil, or_false] at hq
          rcases hq with rfl | rfl
          · exact nd2
          · exact n1
      clear W9 b8 hT8 hd8 O8 ad9 dx8 T d k3 B8 G8 N9 sh9
      rintro σ' H10 ⟨T, al, kv, ad, dx, rfl, G0, R0⟩
      show iRng1 _ _ _ _
      show tCons _ _ _ _ _
      walk_at "wn"
      refine ⟨p, 9, rfl, G0.bag, by decide, by decide, fun cnt H11 c0 c1 e11 b11 => ?_⟩
      have G1 := G0.draw e11 b11
      clear G0 e11 b11
      walk_at "wn"
      refine ⟨_, rfl, by omega, by omega, ?_⟩
      refine for_range (lo := 0) (fun m σ' H' => ∃ (u10 u11 u12 u13 u14 : Option V) (kv : Int → List (Key × V)) (S : Sys) (ad dx : Cell → Addr), σ' = [some (.ref a), some (.int (0 + (i : Int))), some (.ref p), some (.int (0 + (j : Int))), some (.int N), some (.int lab), some (.ref x), some (.ref sp), some (.ref T), u9, u10, u11, u12, u13, u14] ∧ Gm C Hb x p T al kv S ad dx H' ∧ Rnd S lab N kv m) ⟨_, _, _, _, _, kv, S9, ad, dx, rfl, G1, R0⟩ ?_ (fun σ' H' h => ?_)
      · clear G1 R0 ad dx S9 kv u10 u11 u12 u13 u14
        rintro m σ' H12 hm ⟨u10, u11, u12, u13, u14, kv, S, ad, dx, rfl, G, Rn⟩
        have hm9 : m ≤ 9 := by omega
        walk_at "wn"
        refine ⟨fun σ' H' => ∃ pp nn tt : Int, σ' = [some (.ref a), some (.int (0 + (i : Int))), some (.ref p), some (.int (0 + (j : Int))), some (.int N), some (.int lab), some (.ref x), some (.ref sp), some (.ref T), u9, some (.int (0 + (m : Int))), some (.int pp), some (.int nn), some (.int tt), u14] ∧ pp ∈ ([0, 1] : List Int) ∧ 0 ≤ nn ∧ nn < N ∧ 0 ≤ tt ∧ tt < N ∧ Gm C Hb x p T al kv S ad dx H', ?_, ?_⟩
        · unfold tPar3
          walk_at "wn"
          refine ⟨p, 2, rfl, G.bag, by decide, by decide, fun pp H13 p0 p1 e13 b13 => ?_⟩
          have G1 := G.draw e13 b13
          walk_at "wn"
          refine ⟨p, N, rfl, G1.bag, by omega, by omega, fun nn H14 n0 n1 e14 b14 => ?_⟩
          have G2 := G1.draw e14 b14
          walk_at "wn"
          refine ⟨p, N, rfl, G2.bag, by omega, by omega, fun tt H15 t0 t1 e15 b15 => ?_⟩
          have G3 := G2.draw e15 b15
          walk_at "wn"
          refine ⟨_, _, _, rfl, ?_⟩
          refine ⟨pp, nn, tt, rfl, ?_, n0, n1, t0, t1, G3⟩
          simp only [List.mem_cons, List.not_mem_nil, or_false]
          omega
        clear G u11 u12 u13
        rintro σ' H13 ⟨pp, nn, tt, rfl, hp, n0, n1, t0, t1, G⟩
        refine ⟨fun σ' H' => σ' = [some (.ref a), some (.int (0 + (i : Int))), some (.ref p), some (.int (0 + (j : Int))), some (.int N), some (.int lab), some (.ref x), some (.ref sp), some (.ref T), u9, some (.int (0 + (m : Int))), some (.int pp), some (.int nn), some (.int tt), some (.ref (al pp))] ∧ Gm C Hb x p T al kv S ad dx H', ?_, ?_⟩
        · have gd : DGet H13 T (.int pp) (some (.ref (al pp))) := by
            have hv : valV (entKV [0, 1] al) (Sum.inl pp) = some (.ref (al pp)) := by rw [ent_val, if_pos hp]
            exact hv ▸ DGet.k (k := Sum.inl pp) G.top
          walk_at "wn"
          refine ⟨_, rfl, _, rfl, T, _, rfl, gd, ?_⟩
          walk_at "wn"
          exact ⟨rfl, G⟩
        clear G u14
        rintro σ' H14 ⟨rfl, G⟩
        have eP : toI (.int pp) = pp := rfl
        refine ⟨fun σ' H' => ∃ (kv : Int → List (Key × V)) (S : Sys) (ad dx : Cell → Addr), σ' = [some (.ref a), some (.int (0 + (i : Int))), some (.ref p), some (.int (0 + (j : Int))), some (.int N), some (.int lab), some (.ref x), some (.ref sp), some (.ref T), u9, some (.int (0 + (m : Int))), some (.int pp), some (.int nn), some (.int tt), some (.ref (al pp))] ∧ Gm C Hb x p T al kv S ad dx H' ∧ Rnd S lab N kv (m + 1), ?_, ?_⟩
        · have elif_ : ∀ H15, Gm C Hb x p T al kv S ad dx H15 → ∀ Dn : Ends, (∀ σ' H', (∃ (kv : Int → List (Key × V)) (S : Sys) (ad dx : Cell → Addr), σ' = [some (.ref a), some (.int (0 + (i : Int))), some (.ref p), some (.int (0 + (j : Int))), some (.int N), some (.int lab), some (.ref x), some (.ref sp), some (.ref T), u9, some (.int (0 + (m : Int))), some (.int pp), some (.int nn), some (.int tt), some (.ref (al pp))] ∧ Gm C Hb x p T al kv S ad dx H' ∧ Rnd S lab N kv (m + 1)) → Dn.nx σ' H') →
              tIfS (tTest (tDIn (tVar 12) (tVar 14))) (tCut (tDrop (tMeth C.S "copy" (spCopyX C D) [] EF (tVar 6) (tCons (tVar 11) (tCons (tVar 12) (tCons (tVar 13) tNil))))) (sDPut (tVar 14) (tVar 13) (tDGet (tVar 14) (tVar 12)))) tNext Dn [some (.ref a), some (.int (0 + (i : Int))), some (.ref p), some (.int (0 + (j : Int))), some (.int N), some (.int lab), some (.ref x), some (.ref sp), some (.ref T), u9, some (.int (0 + (m : Int))), some (.int pp), some (.int nn), some (.int tt), some (.ref (al pp))] H15 := fun H15 G Dn kk => by
            have hdp := G.dict hp
            walk_at "wn"
            refine ⟨_, rfl, _, rfl, al pp, _, rfl, DGet.k (k := Sum.inl nn) hdp, ?_⟩
            refine ⟨_, rfl, ?_⟩
            cases hv : (valV (kv pp) (Sum.inl nn)).isSome with
            | false =>
              refine iteF ?_
              walk_at "wn"
              exact kk _ _ ⟨kv, S, ad, dx, rfl, G, Rn.more⟩
            | true =>
              refine iteT ?_
              obtain ⟨t, Mt, ev⟩ := Rn.find hp n1 hv
              obtain ⟨kt, rfl⟩ := Int.eq_ofNat_of_zero_le t0
              have hN := Rn.N
              have hc : copyM S (.int pp) (.int nn) (.int (kt : Int)) = .ok (kt, t) := by
                unfold copyM
                rw [thing_of Mt]
                dsimp only
                have eg : goalOf S (toI (.int pp)) (.int (kt : Int)) = .ok kt := by
                  unfold goalOf
                  rw [if_neg (fun z => by cases z), if_pos (inB_of (by omega) (by omega))]
                  rfl
                rw [eg]
              refine ⟨fun σ' H' => ∃ (ad : Cell → Addr), σ' = [some (.ref a), some (.int (0 + (i : Int))), some (.ref p), some (.int (0 + (j : Int))), some (.int N), some (.int lab), some (.ref x), some (.ref sp), some (.ref T), u9, some (.int (0 + (m : Int))), some (.int pp), some (.int nn), some (.int (kt : Int)), some (.ref (al pp))] ∧ Gm C Hb x p T al kv (pasted S pp kt t) ad dx H', ?_, ?_⟩
              · walk_at "wn"
                refine ⟨_, rfl, x, dx .box, _, rfl, G.hb, rfl, ?_⟩
                walk_at "wn"
                refine ⟨.int pp, .int nn, .int (kt : Int), S, ad, dx, by rw [G.box]; rfl, G.at_, Rn.G.W, fl (by have := Rn.G.W.pr pp Mt.pr; omega) (by have := Rn.G.W.pr pp Mt.pr; have := Rn.G.W.P6; omega), fl n0 (by omega), fl (by omega) (by omega), res_ok hc fun H16 ad16 A16 st16 => ?_⟩
                walk_at "wn"
                exact ⟨ad16, rfl, G.step A16 st16⟩
              rintro σ' H16 ⟨ad16, rfl, G16⟩
              have hd16 := G16.dict hp
              have R16 := Rn.paste Mt (k := kt) (by omega)
              have ls := Rn.sh pp hp
              refine ⟨_, rfl, _, rfl, al pp, _, rfl, ev ▸ DGet.k (k := Sum.inl nn) hd16, ?_⟩
              refine ⟨_, rfl, _, rfl, al pp, _, rfl, DPut.k (k := Sum.inl (kt : Int)) hd16 (by rw [sizeLine_eq]; omega), ?_⟩
              exact kk _ _ ⟨_, _, ad16, dx, rfl, G16.put hp upd_same (fun b u n e => (upd_ne n).trans e), R16⟩
          walk_at "wn"
          refine ⟨p, 2, rfl, G.bag, by decide, by decide, fun z H15 z0 z1 e15 b15 => ?_⟩
          have G1 := G.draw e15 b15
          walk_at "wn"
          by_cases hz : z = 0
          · rw [decide_eq_true (show V.int z = V.int 0 by rw [hz])]
            refine iteT ?_
            have hdp := G1.dict hp
            walk_at "wn"
            refine ⟨_, rfl, _, rfl, al pp, _, rfl, DGet.k (k := Sum.inl nn) hdp, ?_⟩
            refine ⟨_, rfl, ?_⟩
            cases hv : (valV (kv pp) (Sum.inl nn)).isSome with
            | false =>
              refine iteF ?_
              exact elif_ H15 G1 _ fun _ _ h => h
            | true =>
              refine iteT ?_
              obtain ⟨t, Mt, ev⟩ := Rn.find hp n1 hv
              refine ⟨fun σ' H' => ∃ (ad : Cell → Addr), σ' = [some (.ref a), some (.int (0 + (i : Int))), some (.ref p), some (.int (0 + (j : Int))), some (.int N), some (.int lab), some (.ref x), some (.ref sp), some (.ref T), u9, some (.int (0 + (m : Int))), some (.int pp), some (.int nn), some (.int tt), some (.ref (al pp))] ∧ Gm C Hb x p T al kv (closed S pp nn t) ad dx H', ?_, ?_⟩
              · walk_at "wn"
                refine ⟨_, rfl, x, dx .box, _, rfl, G1.hb, rfl, ?_⟩
                walk_at "wn"
                refine ⟨.int pp, .int nn, S, ad, dx, by rw [G1.box]; rfl, G1.at_, Rn.G.W, fl (by have := Rn.G.W.pr pp Mt.pr; omega) (by have := Rn.G.W.pr pp Mt.pr; have := Rn.G.W.P6; omega), fl n0 (by omega), res_ok (thing_of Mt) fun H16 ad16 A16 st16 => ?_⟩
                walk_at "wn"
                exact ⟨ad16, rfl, G1.step A16 st16⟩
              rintro σ' H16 ⟨ad16, rfl, G16⟩
              have hd16 := G16.dict hp
              walk_at "wn"
              refine ⟨_, rfl, al pp, rfl, .inl ⟨_, .inl hd16⟩, ?_⟩
              walk_at "wn"
              refine ⟨_, Sum.inl nn, _, hd16, rfl, ev, ?_⟩
              walk_at "wn"
              exact ⟨_, _, ad16, dx, rfl, G16.put hp upd_same (fun b u n e => (upd_ne n).trans e), Rn.close Mt⟩
          · rw [decide_eq_false (show ¬ V.int z = V.int 0 from fun y => hz (V.int.inj y))]
            refine iteF ?_
            refine iteF ?_
            exact elif_ H15 G1 _ fun _ _ h => h
        clear G Rn kv S ad dx
        rintro σ' H15 ⟨kv, S, ad, dx, rfl, G, Rn⟩
        walk_at "wn"
        refine ⟨S, ad, dx, T, al, kv, lab, by rw [G.box]; rfl, G.at_, Rn.G, G.top, G.dts (fun q hq => by have := Rn.sh q hq; omega) Rn.B, Rn.B, fun H16 s16 => ?_⟩
        walk_at "wn"
        exact ⟨_, _, _, _, _, kv, S, ad, dx, rfl, G.same s16, Rn⟩
      · obtain ⟨u10, u11, u12, u13, u14, kv, S, ad, dx, rfl, G, _⟩ := h
        cases G with
        | mk W b _ _ _ _ => exact ⟨_, _, _, _, _, _, _, _, _, _, _, _, rfl, fun q o e => W.old q o e, W.bagH b⟩
    rintro σ' H' ⟨u1, u2, u3, u4, u5, u6, u7, u8, u9, u10, u11, u12, u13, u14, rfl⟩
    walk_at "wn"
    exact k _
end

theorem Ln0 {α : Type} : ∀ {us : List α}, us.length = 0 → us = []
  | [], _ => rfl
theorem Ln1 {α : Type} : ∀ {us : List α}, us.length = 1 → ∃ a0, us = [a0]
  | [a0], _ => ⟨_, rfl⟩
theorem Ln2 {α : Type} : ∀ {us : List α}, us.length = 2 → ∃ a0 a1, us = [a0, a1]
  | [a0, a1], _ => ⟨_, _, rfl⟩
theorem Ln3 {α : Type} : ∀ {us : List α}, us.length = 3 → ∃ a0 a1 a2, us = [a0, a1, a2]
  | [a0, a1, a2], _ => ⟨_, _, _, rfl⟩
theorem Ln4 {α : Type} : ∀ {us : List α}, us.length = 4 → ∃ a0 a1 a2 a3, us = [a0, a1, a2, a3]
  | [a0, a1, a2, a3], _ => ⟨_, _, _, _, rfl⟩
theorem Ln5 {α : Type} : ∀ {us : List α}, us.length = 5 → ∃ a0 a1 a2 a3 a4, us = [a0, a1, a2, a3, a4]
  | [a0, a1, a2, a3, a4], _ => ⟨_, _, _, _, _, rfl⟩
theorem all_mk {P : Program} {w : World} {K : PySem.W.Frag} {h : Heap} {mg : Str → Option Value} {fa : Addr} (X : K.In h) (G : h.Ns mainGlobals mg) (hfa : mg "law" = some (.ref fa))
    {CS CW CR : Addr}
    {CPr NPr : Addr} {nmPr qPr : Str} {bsPr subPr : List Value} {snPr : List Str} {abPr : Bool} {colPr : Option Bool} {ddPr : Option Addr} {maPr mbPr mcPr mdPr mePr : Option Value}
    {COp NOp : Addr} {nmOp qOp : Str} {bsOp subOp : List Value} {snOp : List Str} {abOp : Bool} {colOp : Option Bool} {ddOp : Option Addr} {maOp mbOp mcOp mdOp meOp : Option Value}
    {CNu NNu : Addr} {nmNu qNu : Str} {bsNu subNu : List Value} {snNu : List Str} {abNu : Bool} {colNu : Option Bool} {ddNu : Option Addr} {maNu mbNu mcNu mdNu meNu : Option Value}
    {CNs NNs : Addr} {nmNs qNs : Str} {bsNs subNs : List Value} {snNs : List Str} {abNs : Bool} {colNs : Option Bool} {ddNs : Option Addr} {maNs mbNs mcNs mdNs meNs : Option Value}
    {CNt NNt : Addr} {nmNt qNt : Str} {bsNt subNt : List Value} {snNt : List Str} {abNt : Bool} {colNt : Option Bool} {ddNt : Option Addr} {maNt mbNt mcNt mdNt meNt : Option Value}
    {CFu NFu : Addr} {nmFu qFu : Str} {bsFu subFu : List Value} {snFu : List Str} {abFu : Bool} {colFu : Option Bool} {ddFu : Option Addr} {maFu mbFu mcFu mdFu meFu : Option Value}
    {CNo NNo : Addr} {nmNo qNo : Str} {bsNo subNo : List Value} {snNo : List Str} {abNo : Bool} {colNo : Option Bool} {ddNo : Option Addr} {maNo mbNo mcNo mdNo meNo : Option Value}
    {CCo NCo : Addr} {nmCo qCo : Str} {bsCo subCo : List Value} {snCo : List Str} {abCo : Bool} {colCo : Option Bool} {ddCo : Option Addr} {maCo mbCo mcCo mdCo meCo : Option Value}
    {CLa NLa : Addr} {nmLa qLa : Str} {bsLa subLa : List Value} {snLa : List Str} {abLa : Bool} {colLa : Option Bool} {ddLa : Option Addr} {maLa mbLa mcLa mdLa meLa : Option Value}
    {CWo NWo : Addr} {nmWo qWo : Str} {bsWo subWo : List Value} {snWo : List Str} {abWo : Bool} {colWo : Option Bool} {ddWo : Option Addr} {maWo mbWo mcWo mdWo meWo : Option Value}
    {CRg NRg : Addr} {nmRg qRg : Str} {bsRg subRg : List Value} {snRg : List Str} {abRg : Bool} {colRg : Option Bool} {ddRg : Option Addr} {maRg mbRg mcRg mdRg meRg : Option Value}
    {CTa NTa : Addr} {nmTa qTa : Str} {bsTa subTa : List Value} {snTa : List Str} {abTa : Bool} {colTa : Option Bool} {ddTa : Option Addr} {maTa mbTa mcTa mdTa meTa : Option Value}
    {f_int : Addr} {fd_int : FuncData}
    {f_bet : Addr} {fd_bet : FuncData}
    {f_lab : Addr} {fd_lab : FuncData}
    {f_wrd : Addr} {fd_wrd : FuncData}
    {f_snm : Addr} {fd_snm : FuncData}
    {f_rnm : Addr} {fd_rnm : FuncData}
    {f_hld : Addr} {fd_hld : FuncData}
    {f_isr : Addr} {fd_isr : FuncData}
    {f_iss : Addr} {fd_iss : FuncData}
    {f_bag : Addr} {fd_bag : FuncData}
    {f_take : Addr} {fd_take : FuncData}
    {f_of : Addr} {fd_of : FuncData}
    {f_due : Addr} {fd_due : FuncData}
    {f_fnd : Addr} {fd_fnd : FuncData}
    {f_rgt : Addr} {fd_rgt : FuncData}
    {f_law : Addr} {fd_law : FuncData}
    {f_xPr : Addr} {fd_xPr : FuncData}
    {f_xOp : Addr} {fd_xOp : FuncData}
    {f_xNu : Addr} {fd_xNu : FuncData}
    {f_xNs : Addr} {fd_xNs : FuncData}
    {f_xNt : Addr} {fd_xNt : FuncData}
    {f_xFu : Addr} {fd_xFu : FuncData}
    {f_xNo : Addr} {fd_xNo : FuncData}
    {f_xCo : Addr} {fd_xCo : FuncData}
    {f_xLa : Addr} {fd_xLa : FuncData}
    {f_xWo : Addr} {fd_xWo : FuncData}
    {f_xRg : Addr} {fd_xRg : FuncData}
    {f_xTa : Addr} {fd_xTa : FuncData}
    {f_ri : Addr} {fd_ri : FuncData}
    {f_wi : Addr} {fd_wi : FuncData}
    {f_lof : Addr} {fd_lof : FuncData}
    {f_put : Addr} {fd_put : FuncData}
    {f_app : Addr} {fd_app : FuncData}
    {f_drp : Addr} {fd_drp : FuncData}
    {f_dso : Addr} {fd_dso : FuncData}
    {f_si : Addr} {fd_si : FuncData}
    {f_con : Addr} {fd_con : FuncData}
    {f_tof : Addr} {fd_tof : FuncData}
    {f_itn : Addr} {fd_itn : FuncData}
    {f_tha : Addr} {fd_tha : FuncData}
    {f_sra : Addr} {fd_sra : FuncData}
    {f_sta : Addr} {fd_sta : FuncData}
    {f_frn : Addr} {fd_frn : FuncData}
    {f_nth : Addr} {fd_nth : FuncData}
    {f_nso : Addr} {fd_nso : FuncData}
    {f_nse : Addr} {fd_nse : FuncData}
    {f_rdy : Addr} {fd_rdy : FuncData}
    {f_etg : Addr} {fd_etg : FuncData}
    {f_add : Addr} {fd_add : FuncData}
    {f_fre : Addr} {fd_fre : FuncData}
    {f_clo : Addr} {fd_clo : FuncData}
    {f_cpy : Addr} {fd_cpy : FuncData}
    {f_frp : Addr} {fd_frp : FuncData}
    {f_frk : Addr} {fd_frk : FuncData}
    {f_tng : Addr} {fd_tng : FuncData}
    {f_nof : Addr} {fd_nof : FuncData}
    {f_nam : Addr} {fd_nam : FuncData}
    {f_reg : Addr} {fd_reg : FuncData}
    {wW : Addr} {dW : Option Addr} {nW : Nat} {sW : Array (Option Value)} {tW0 tW1 tW2 : Tok}
    {tMC : Tok}
    {tML : Tok}
    {tLP : Tok}
    {tLN : Tok}
    {tMP : Tok}
    {tMN : Tok}
    (gCS : PySem.W.nsIn K mainGlobals "System" = some (some (.ref CS)))
    (pgS : PySem.W.plainGet K CS Str.empty = true)
    (hdS : PySem.W.hasDictIn K CS = true)
    (poS : PySem.W.plainOver K CS = true)
    (saS : PySem.W.findIn K (.ref CS) "__setattr__" = some (some (.builtin "object.__setattr__")))
    (mkS : PySem.W.makesIn K CS = true)
    (kcS : PySem.W.keepIn K (.ref CS) = true)
    (noS0 : PySem.W.findIn K (.ref CS) "process_limit" = some none)
    (noS1 : PySem.W.findIn K (.ref CS) "number_limit" = some none)
    (noS2 : PySem.W.findIn K (.ref CS) "tables" = some none)
    (noS3 : PySem.W.findIn K (.ref CS) "sources" = some none)
    (noS4 : PySem.W.findIn K (.ref CS) "sets" = some none)
    (noS5 : PySem.W.findIn K (.ref CS) "next_thing" = some none)
    (gCW : PySem.W.nsIn K mainGlobals "WaitingSet" = some (some (.ref CW)))
    (pgW : PySem.W.plainGet K CW Str.empty = true)
    (hdW : PySem.W.hasDictIn K CW = true)
    (poW : PySem.W.plainOver K CW = true)
    (saW : PySem.W.findIn K (.ref CW) "__setattr__" = some (some (.builtin "object.__setattr__")))
    (mkW : PySem.W.makesIn K CW = true)
    (kcW : PySem.W.keepIn K (.ref CW) = true)
    (noW0 : PySem.W.findIn K (.ref CW) "entries" = some none)
    (noW1 : PySem.W.findIn K (.ref CW) "queue" = some none)
    (gCR : PySem.W.nsIn K mainGlobals "Registration" = some (some (.ref CR)))
    (pgR : PySem.W.plainGet K CR Str.empty = true)
    (hdR : PySem.W.hasDictIn K CR = true)
    (poR : PySem.W.plainOver K CR = true)
    (saR : PySem.W.findIn K (.ref CR) "__setattr__" = some (some (.builtin "object.__setattr__")))
    (mkR : PySem.W.makesIn K CR = true)
    (kcR : PySem.W.keepIn K (.ref CR) = true)
    (noR0 : PySem.W.findIn K (.ref CR) "number" = some none)
    (noR1 : PySem.W.findIn K (.ref CR) "source" = some none)
    (noR2 : PySem.W.findIn K (.ref CR) "word" = some none)
    (noR3 : PySem.W.findIn K (.ref CR) "armed" = some none)
    (nWR : CW ≠ CR)
    (gCPr : PySem.W.nsIn K mainGlobals "NoProcess" = some (some (.ref CPr)))
    (xLPr : K.lookup CPr = some (excClassObj nmPr qPr CPr NPr bsPr [.type "LookupError", .type "Exception", .type "BaseException", .type "object"] true snPr subPr abPr colPr ddPr maPr mbPr mcPr mdPr mePr "LookupError.__new__"))
    (xsaPr : PySem.W.findIn K (.ref CPr) "__setattr__" = some (some (.builtin "object.__setattr__")))
    (xgaPr : PySem.W.findIn K (.ref CPr) "__getattribute__" = some (some (.builtin "BaseException.__getattribute__")))
    (xggPr : PySem.W.findIn K (.ref CPr) "__getattr__" = some none)
    (xnbPr0 : PySem.W.findIn K (.ref CPr) "process" = some none)
    (xvVPr : PySem.W.findCls K (.type "LookupError") (.type "type") "__init__" = some (.val (.builtin "LookupError.__init__")))
    (xkCPr : PySem.W.keepIn K (.ref CPr) = true)
    (xeCPr : PySem.W.subIn K (.ref CPr) (.type "BaseException") = some true)
    (xtCPr : PySem.W.typeIn K (.ref CPr) = some (.type "type"))
    (xhCPr : PySem.W.hasDictIn K CPr = true)
    (xtePr : PySem.W.exmOne K (.ref CPr) (.ref CPr) = some true)
    (xC1Pr : PySem.W.findIn K (.ref CPr) "__class__" = some (some (.builtin "object.__class__")))
    (xC4Pr : PySem.W.mroIn K CPr (.type "object") = some true)
    (xC5Pr : (PySem.W.clsIn K CPr).isSome = true)
    (xkvPr : PySem.W.kitOne K (.ref CPr) (.type "LookupError") = some true)
    (xC2 : PySem.W.specialIn K (.builtin "object.__class__") "__get__" = some (some (.builtin "getset_descriptor.__get__")))
    (xC3 : PySem.W.takesIn K (.builtin "object.__class__") = some true)
    (gCOp : PySem.W.nsIn K mainGlobals "NotOpen" = some (some (.ref COp)))
    (xLOp : K.lookup COp = some (excClassObj nmOp qOp COp NOp bsOp [.type "LookupError", .type "Exception", .type "BaseException", .type "object"] true snOp subOp abOp colOp ddOp maOp mbOp mcOp mdOp meOp "LookupError.__new__"))
    (xsaOp : PySem.W.findIn K (.ref COp) "__setattr__" = some (some (.builtin "object.__setattr__")))
    (xgaOp : PySem.W.findIn K (.ref COp) "__getattribute__" = some (some (.builtin "BaseException.__getattribute__")))
    (xggOp : PySem.W.findIn K (.ref COp) "__getattr__" = some none)
    (xnbOp0 : PySem.W.findIn K (.ref COp) "number" = some none)
    (xvVOp : PySem.W.findCls K (.type "LookupError") (.type "type") "__init__" = some (.val (.builtin "LookupError.__init__")))
    (xkCOp : PySem.W.keepIn K (.ref COp) = true)
    (xeCOp : PySem.W.subIn K (.ref COp) (.type "BaseException") = some true)
    (xtCOp : PySem.W.typeIn K (.ref COp) = some (.type "type"))
    (xhCOp : PySem.W.hasDictIn K COp = true)
    (xteOp : PySem.W.exmOne K (.ref COp) (.ref COp) = some true)
    (xC1Op : PySem.W.findIn K (.ref COp) "__class__" = some (some (.builtin "object.__class__")))
    (xC4Op : PySem.W.mroIn K COp (.type "object") = some true)
    (xC5Op : (PySem.W.clsIn K COp).isSome = true)
    (xkvOp : PySem.W.kitOne K (.ref COp) (.type "LookupError") = some true)
    (gCNu : PySem.W.nsIn K mainGlobals "NoNumber" = some (some (.ref CNu)))
    (xLNu : K.lookup CNu = some (excClassObj nmNu qNu CNu NNu bsNu [.type "LookupError", .type "Exception", .type "BaseException", .type "object"] true snNu subNu abNu colNu ddNu maNu mbNu mcNu mdNu meNu "LookupError.__new__"))
    (xsaNu : PySem.W.findIn K (.ref CNu) "__setattr__" = some (some (.builtin "object.__setattr__")))
    (xgaNu : PySem.W.findIn K (.ref CNu) "__getattribute__" = some (some (.builtin "BaseException.__getattribute__")))
    (xggNu : PySem.W.findIn K (.ref CNu) "__getattr__" = some none)
    (xnbNu0 : PySem.W.findIn K (.ref CNu) "number" = some none)
    (xvVNu : PySem.W.findCls K (.type "LookupError") (.type "type") "__init__" = some (.val (.builtin "LookupError.__init__")))
    (xkCNu : PySem.W.keepIn K (.ref CNu) = true)
    (xeCNu : PySem.W.subIn K (.ref CNu) (.type "BaseException") = some true)
    (xtCNu : PySem.W.typeIn K (.ref CNu) = some (.type "type"))
    (xhCNu : PySem.W.hasDictIn K CNu = true)
    (xteNu : PySem.W.exmOne K (.ref CNu) (.ref CNu) = some true)
    (xC1Nu : PySem.W.findIn K (.ref CNu) "__class__" = some (some (.builtin "object.__class__")))
    (xC4Nu : PySem.W.mroIn K CNu (.type "object") = some true)
    (xC5Nu : (PySem.W.clsIn K CNu).isSome = true)
    (xkvNu : PySem.W.kitOne K (.ref CNu) (.type "LookupError") = some true)
    (gCNs : PySem.W.nsIn K mainGlobals "NotASource" = some (some (.ref CNs)))
    (xLNs : K.lookup CNs = some (excClassObj nmNs qNs CNs NNs bsNs [.type "TypeError", .type "Exception", .type "BaseException", .type "object"] true snNs subNs abNs colNs ddNs maNs mbNs mcNs mdNs meNs "TypeError.__new__"))
    (xsaNs : PySem.W.findIn K (.ref CNs) "__setattr__" = some (some (.builtin "object.__setattr__")))
    (xgaNs : PySem.W.findIn K (.ref CNs) "__getattribute__" = some (some (.builtin "BaseException.__getattribute__")))
    (xggNs : PySem.W.findIn K (.ref CNs) "__getattr__" = some none)
    (xnbNs0 : PySem.W.findIn K (.ref CNs) "number" = some none)
    (xvVNs : PySem.W.findCls K (.type "TypeError") (.type "type") "__init__" = some (.val (.builtin "TypeError.__init__")))
    (xkCNs : PySem.W.keepIn K (.ref CNs) = true)
    (xeCNs : PySem.W.subIn K (.ref CNs) (.type "BaseException") = some true)
    (xtCNs : PySem.W.typeIn K (.ref CNs) = some (.type "type"))
    (xhCNs : PySem.W.hasDictIn K CNs = true)
    (xteNs : PySem.W.exmOne K (.ref CNs) (.ref CNs) = some true)
    (xC1Ns : PySem.W.findIn K (.ref CNs) "__class__" = some (some (.builtin "object.__class__")))
    (xC4Ns : PySem.W.mroIn K CNs (.type "object") = some true)
    (xC5Ns : (PySem.W.clsIn K CNs).isSome = true)
    (xkvNs : PySem.W.kitOne K (.ref CNs) (.type "TypeError") = some true)
    (gCNt : PySem.W.nsIn K mainGlobals "NotASet" = some (some (.ref CNt)))
    (xLNt : K.lookup CNt = some (excClassObj nmNt qNt CNt NNt bsNt [.type "TypeError", .type "Exception", .type "BaseException", .type "object"] true snNt subNt abNt colNt ddNt maNt mbNt mcNt mdNt meNt "TypeError.__new__"))
    (xsaNt : PySem.W.findIn K (.ref CNt) "__setattr__" = some (some (.builtin "object.__setattr__")))
    (xgaNt : PySem.W.findIn K (.ref CNt) "__getattribute__" = some (some (.builtin "BaseException.__getattribute__")))
    (xggNt : PySem.W.findIn K (.ref CNt) "__getattr__" = some none)
    (xnbNt0 : PySem.W.findIn K (.ref CNt) "number" = some none)
    (xvVNt : PySem.W.findCls K (.type "TypeError") (.type "type") "__init__" = some (.val (.builtin "TypeError.__init__")))
    (xkCNt : PySem.W.keepIn K (.ref CNt) = true)
    (xeCNt : PySem.W.subIn K (.ref CNt) (.type "BaseException") = some true)
    (xtCNt : PySem.W.typeIn K (.ref CNt) = some (.type "type"))
    (xhCNt : PySem.W.hasDictIn K CNt = true)
    (xteNt : PySem.W.exmOne K (.ref CNt) (.ref CNt) = some true)
    (xC1Nt : PySem.W.findIn K (.ref CNt) "__class__" = some (some (.builtin "object.__class__")))
    (xC4Nt : PySem.W.mroIn K CNt (.type "object") = some true)
    (xC5Nt : (PySem.W.clsIn K CNt).isSome = true)
    (xkvNt : PySem.W.kitOne K (.ref CNt) (.type "TypeError") = some true)
    (gCFu : PySem.W.nsIn K mainGlobals "Full" = some (some (.ref CFu)))
    (xLFu : K.lookup CFu = some (excClassObj nmFu qFu CFu NFu bsFu [.type "OverflowError", .type "ArithmeticError", .type "Exception", .type "BaseException", .type "object"] true snFu subFu abFu colFu ddFu maFu mbFu mcFu mdFu meFu "OverflowError.__new__"))
    (xsaFu : PySem.W.findIn K (.ref CFu) "__setattr__" = some (some (.builtin "object.__setattr__")))
    (xgaFu : PySem.W.findIn K (.ref CFu) "__getattribute__" = some (some (.builtin "BaseException.__getattribute__")))
    (xggFu : PySem.W.findIn K (.ref CFu) "__getattr__" = some none)
    (xnbFu0 : PySem.W.findIn K (.ref CFu) "process" = some none)
    (xvVFu : PySem.W.findCls K (.type "OverflowError") (.type "type") "__init__" = some (.val (.builtin "OverflowError.__init__")))
    (xkCFu : PySem.W.keepIn K (.ref CFu) = true)
    (xeCFu : PySem.W.subIn K (.ref CFu) (.type "BaseException") = some true)
    (xtCFu : PySem.W.typeIn K (.ref CFu) = some (.type "type"))
    (xhCFu : PySem.W.hasDictIn K CFu = true)
    (xteFu : PySem.W.exmOne K (.ref CFu) (.ref CFu) = some true)
    (xC1Fu : PySem.W.findIn K (.ref CFu) "__class__" = some (some (.builtin "object.__class__")))
    (xC4Fu : PySem.W.mroIn K CFu (.type "object") = some true)
    (xC5Fu : (PySem.W.clsIn K CFu).isSome = true)
    (xkvFu : PySem.W.kitOne K (.ref CFu) (.type "OverflowError") = some true)
    (gCNo : PySem.W.nsIn K mainGlobals "NoRoom" = some (some (.ref CNo)))
    (xLNo : K.lookup CNo = some (excClassObj nmNo qNo CNo NNo bsNo [.type "OverflowError", .type "ArithmeticError", .type "Exception", .type "BaseException", .type "object"] true snNo subNo abNo colNo ddNo maNo mbNo mcNo mdNo meNo "OverflowError.__new__"))
    (xsaNo : PySem.W.findIn K (.ref CNo) "__setattr__" = some (some (.builtin "object.__setattr__")))
    (xgaNo : PySem.W.findIn K (.ref CNo) "__getattribute__" = some (some (.builtin "BaseException.__getattribute__")))
    (xggNo : PySem.W.findIn K (.ref CNo) "__getattr__" = some none)
    (xvVNo : PySem.W.findCls K (.type "OverflowError") (.type "type") "__init__" = some (.val (.builtin "OverflowError.__init__")))
    (xkCNo : PySem.W.keepIn K (.ref CNo) = true)
    (xeCNo : PySem.W.subIn K (.ref CNo) (.type "BaseException") = some true)
    (xtCNo : PySem.W.typeIn K (.ref CNo) = some (.type "type"))
    (xhCNo : PySem.W.hasDictIn K CNo = true)
    (xteNo : PySem.W.exmOne K (.ref CNo) (.ref CNo) = some true)
    (xC1No : PySem.W.findIn K (.ref CNo) "__class__" = some (some (.builtin "object.__class__")))
    (xC4No : PySem.W.mroIn K CNo (.type "object") = some true)
    (xC5No : (PySem.W.clsIn K CNo).isSome = true)
    (xkvNo : PySem.W.kitOne K (.ref CNo) (.type "OverflowError") = some true)
    (gCCo : PySem.W.nsIn K mainGlobals "BadCount" = some (some (.ref CCo)))
    (xLCo : K.lookup CCo = some (excClassObj nmCo qCo CCo NCo bsCo [.type "ValueError", .type "Exception", .type "BaseException", .type "object"] true snCo subCo abCo colCo ddCo maCo mbCo mcCo mdCo meCo "ValueError.__new__"))
    (xsaCo : PySem.W.findIn K (.ref CCo) "__setattr__" = some (some (.builtin "object.__setattr__")))
    (xgaCo : PySem.W.findIn K (.ref CCo) "__getattribute__" = some (some (.builtin "BaseException.__getattribute__")))
    (xggCo : PySem.W.findIn K (.ref CCo) "__getattr__" = some none)
    (xnbCo0 : PySem.W.findIn K (.ref CCo) "count" = some none)
    (xvVCo : PySem.W.findCls K (.type "ValueError") (.type "type") "__init__" = some (.val (.builtin "ValueError.__init__")))
    (xkCCo : PySem.W.keepIn K (.ref CCo) = true)
    (xeCCo : PySem.W.subIn K (.ref CCo) (.type "BaseException") = some true)
    (xtCCo : PySem.W.typeIn K (.ref CCo) = some (.type "type"))
    (xhCCo : PySem.W.hasDictIn K CCo = true)
    (xteCo : PySem.W.exmOne K (.ref CCo) (.ref CCo) = some true)
    (xC1Co : PySem.W.findIn K (.ref CCo) "__class__" = some (some (.builtin "object.__class__")))
    (xC4Co : PySem.W.mroIn K CCo (.type "object") = some true)
    (xC5Co : (PySem.W.clsIn K CCo).isSome = true)
    (xkvCo : PySem.W.kitOne K (.ref CCo) (.type "ValueError") = some true)
    (gCLa : PySem.W.nsIn K mainGlobals "BadLabel" = some (some (.ref CLa)))
    (xLLa : K.lookup CLa = some (excClassObj nmLa qLa CLa NLa bsLa [.type "ValueError", .type "Exception", .type "BaseException", .type "object"] true snLa subLa abLa colLa ddLa maLa mbLa mcLa mdLa meLa "ValueError.__new__"))
    (xsaLa : PySem.W.findIn K (.ref CLa) "__setattr__" = some (some (.builtin "object.__setattr__")))
    (xgaLa : PySem.W.findIn K (.ref CLa) "__getattribute__" = some (some (.builtin "BaseException.__getattribute__")))
    (xggLa : PySem.W.findIn K (.ref CLa) "__getattr__" = some none)
    (xnbLa0 : PySem.W.findIn K (.ref CLa) "label" = some none)
    (xvVLa : PySem.W.findCls K (.type "ValueError") (.type "type") "__init__" = some (.val (.builtin "ValueError.__init__")))
    (xkCLa : PySem.W.keepIn K (.ref CLa) = true)
    (xeCLa : PySem.W.subIn K (.ref CLa) (.type "BaseException") = some true)
    (xtCLa : PySem.W.typeIn K (.ref CLa) = some (.type "type"))
    (xhCLa : PySem.W.hasDictIn K CLa = true)
    (xteLa : PySem.W.exmOne K (.ref CLa) (.ref CLa) = some true)
    (xC1La : PySem.W.findIn K (.ref CLa) "__class__" = some (some (.builtin "object.__class__")))
    (xC4La : PySem.W.mroIn K CLa (.type "object") = some true)
    (xC5La : (PySem.W.clsIn K CLa).isSome = true)
    (xkvLa : PySem.W.kitOne K (.ref CLa) (.type "ValueError") = some true)
    (gCWo : PySem.W.nsIn K mainGlobals "BadWord" = some (some (.ref CWo)))
    (xLWo : K.lookup CWo = some (excClassObj nmWo qWo CWo NWo bsWo [.type "ValueError", .type "Exception", .type "BaseException", .type "object"] true snWo subWo abWo colWo ddWo maWo mbWo mcWo mdWo meWo "ValueError.__new__"))
    (xsaWo : PySem.W.findIn K (.ref CWo) "__setattr__" = some (some (.builtin "object.__setattr__")))
    (xgaWo : PySem.W.findIn K (.ref CWo) "__getattribute__" = some (some (.builtin "BaseException.__getattribute__")))
    (xggWo : PySem.W.findIn K (.ref CWo) "__getattr__" = some none)
    (xnbWo0 : PySem.W.findIn K (.ref CWo) "word" = some none)
    (xvVWo : PySem.W.findCls K (.type "ValueError") (.type "type") "__init__" = some (.val (.builtin "ValueError.__init__")))
    (xkCWo : PySem.W.keepIn K (.ref CWo) = true)
    (xeCWo : PySem.W.subIn K (.ref CWo) (.type "BaseException") = some true)
    (xtCWo : PySem.W.typeIn K (.ref CWo) = some (.type "type"))
    (xhCWo : PySem.W.hasDictIn K CWo = true)
    (xteWo : PySem.W.exmOne K (.ref CWo) (.ref CWo) = some true)
    (xC1Wo : PySem.W.findIn K (.ref CWo) "__class__" = some (some (.builtin "object.__class__")))
    (xC4Wo : PySem.W.mroIn K CWo (.type "object") = some true)
    (xC5Wo : (PySem.W.clsIn K CWo).isSome = true)
    (xkvWo : PySem.W.kitOne K (.ref CWo) (.type "ValueError") = some true)
    (gCRg : PySem.W.nsIn K mainGlobals "Registered" = some (some (.ref CRg)))
    (xLRg : K.lookup CRg = some (excClassObj nmRg qRg CRg NRg bsRg [.type "RuntimeError", .type "Exception", .type "BaseException", .type "object"] true snRg subRg abRg colRg ddRg maRg mbRg mcRg mdRg meRg "RuntimeError.__new__"))
    (xsaRg : PySem.W.findIn K (.ref CRg) "__setattr__" = some (some (.builtin "object.__setattr__")))
    (xgaRg : PySem.W.findIn K (.ref CRg) "__getattribute__" = some (some (.builtin "BaseException.__getattribute__")))
    (xggRg : PySem.W.findIn K (.ref CRg) "__getattr__" = some none)
    (xnbRg0 : PySem.W.findIn K (.ref CRg) "number" = some none)
    (xvVRg : PySem.W.findCls K (.type "RuntimeError") (.type "type") "__init__" = some (.val (.builtin "RuntimeError.__init__")))
    (xkCRg : PySem.W.keepIn K (.ref CRg) = true)
    (xeCRg : PySem.W.subIn K (.ref CRg) (.type "BaseException") = some true)
    (xtCRg : PySem.W.typeIn K (.ref CRg) = some (.type "type"))
    (xhCRg : PySem.W.hasDictIn K CRg = true)
    (xteRg : PySem.W.exmOne K (.ref CRg) (.ref CRg) = some true)
    (xC1Rg : PySem.W.findIn K (.ref CRg) "__class__" = some (some (.builtin "object.__class__")))
    (xC4Rg : PySem.W.mroIn K CRg (.type "object") = some true)
    (xC5Rg : (PySem.W.clsIn K CRg).isSome = true)
    (xkvRg : PySem.W.kitOne K (.ref CRg) (.type "RuntimeError") = some true)
    (gCTa : PySem.W.nsIn K mainGlobals "Taken" = some (some (.ref CTa)))
    (xLTa : K.lookup CTa = some (excClassObj nmTa qTa CTa NTa bsTa [.type "RuntimeError", .type "Exception", .type "BaseException", .type "object"] true snTa subTa abTa colTa ddTa maTa mbTa mcTa mdTa meTa "RuntimeError.__new__"))
    (xsaTa : PySem.W.findIn K (.ref CTa) "__setattr__" = some (some (.builtin "object.__setattr__")))
    (xgaTa : PySem.W.findIn K (.ref CTa) "__getattribute__" = some (some (.builtin "BaseException.__getattribute__")))
    (xggTa : PySem.W.findIn K (.ref CTa) "__getattr__" = some none)
    (xnbTa0 : PySem.W.findIn K (.ref CTa) "label" = some none)
    (xvVTa : PySem.W.findCls K (.type "RuntimeError") (.type "type") "__init__" = some (.val (.builtin "RuntimeError.__init__")))
    (xkCTa : PySem.W.keepIn K (.ref CTa) = true)
    (xeCTa : PySem.W.subIn K (.ref CTa) (.type "BaseException") = some true)
    (xtCTa : PySem.W.typeIn K (.ref CTa) = some (.type "type"))
    (xhCTa : PySem.W.hasDictIn K CTa = true)
    (xteTa : PySem.W.exmOne K (.ref CTa) (.ref CTa) = some true)
    (xC1Ta : PySem.W.findIn K (.ref CTa) "__class__" = some (some (.builtin "object.__class__")))
    (xC4Ta : PySem.W.mroIn K CTa (.type "object") = some true)
    (xC5Ta : (PySem.W.clsIn K CTa).isSome = true)
    (xkvTa : PySem.W.kitOne K (.ref CTa) (.type "RuntimeError") = some true)
    (aint : PySem.W.nsIn K mainGlobals "is_integer" = some (some (.ref f_int)))
    (kint : PySem.W.keepIn K (.ref f_int) = true)
    (F0int : FunD K "is_integer" "is_integer" (defArgs sIsInteger) (defBody sIsInteger) (defScope sIsInteger) ([] : List V) ([] : List (Str × V)) f_int fd_int)
    (abet : PySem.W.nsIn K mainGlobals "is_between" = some (some (.ref f_bet)))
    (kbet : PySem.W.keepIn K (.ref f_bet) = true)
    (F0bet : FunD K "is_between" "is_between" (defArgs sIsBetween) (defBody sIsBetween) (defScope sIsBetween) ([] : List V) ([] : List (Str × V)) f_bet fd_bet)
    (alab : PySem.W.nsIn K mainGlobals "is_label" = some (some (.ref f_lab)))
    (klab : PySem.W.keepIn K (.ref f_lab) = true)
    (F0lab : FunD K "is_label" "is_label" (defArgs sIsLabel) (defBody sIsLabel) (defScope sIsLabel) ([] : List V) ([] : List (Str × V)) f_lab fd_lab)
    (awrd : PySem.W.nsIn K mainGlobals "is_word" = some (some (.ref f_wrd)))
    (kwrd : PySem.W.keepIn K (.ref f_wrd) = true)
    (F0wrd : FunD K "is_word" "is_word" (defArgs sIsWord) (defBody sIsWord) (defScope sIsWord) ([] : List V) ([] : List (Str × V)) f_wrd fd_wrd)
    (asnm : PySem.W.nsIn K mainGlobals "set_named" = some (some (.ref f_snm)))
    (ksnm : PySem.W.keepIn K (.ref f_snm) = true)
    (F0snm : FunD K "set_named" "set_named" (defArgs sSetNamed) (defBody sSetNamed) (defScope sSetNamed) ([] : List V) ([] : List (Str × V)) f_snm fd_snm)
    (arnm : PySem.W.nsIn K mainGlobals "registration_named" = some (some (.ref f_rnm)))
    (krnm : PySem.W.keepIn K (.ref f_rnm) = true)
    (F0rnm : FunD K "registration_named" "registration_named" (defArgs sRegNamed) (defBody sRegNamed) (defScope sRegNamed) ([] : List V) ([] : List (Str × V)) f_rnm fd_rnm)
    (ahld : PySem.W.nsIn K mainGlobals "are_held_together" = some (some (.ref f_hld)))
    (khld : PySem.W.keepIn K (.ref f_hld) = true)
    (F0hld : FunD K "are_held_together" "are_held_together" (defArgs sHeldTogether) (defBody sHeldTogether) (defScope sHeldTogether) ([] : List V) ([] : List (Str × V)) f_hld fd_hld)
    (aisr : PySem.W.nsIn K mainGlobals "is_reached" = some (some (.ref f_isr)))
    (kisr : PySem.W.keepIn K (.ref f_isr) = true)
    (F0isr : FunD K "is_reached" "is_reached" (defArgs sIsReached) (defBody sIsReached) (defScope sIsReached) ([] : List V) ([] : List (Str × V)) f_isr fd_isr)
    (aiss : PySem.W.nsIn K mainGlobals "is_sealed" = some (some (.ref f_iss)))
    (kiss : PySem.W.keepIn K (.ref f_iss) = true)
    (F0iss : FunD K "is_sealed" "is_sealed" (defArgs sIsSealed) (defBody sIsSealed) (defScope sIsSealed) ([] : List V) ([] : List (Str × V)) f_iss fd_iss)
    (abag : PySem.W.nsIn K mainGlobals "_law_bag" = some (some (.ref f_bag)))
    (kbag : PySem.W.keepIn K (.ref f_bag) = true)
    (F0bag : FunD K "_law_bag" "_law_bag" (defArgs sBag) (defBody sBag) (defScope sBag) ([] : List V) ([] : List (Str × V)) f_bag fd_bag)
    (atake : PySem.W.nsIn K mainGlobals "_law_take" = some (some (.ref f_take)))
    (ktake : PySem.W.keepIn K (.ref f_take) = true)
    (F0take : FunD K "_law_take" "_law_take" (defArgs sTake) (defBody sTake) (defScope sTake) ([] : List V) ([] : List (Str × V)) f_take fd_take)
    (aof : PySem.W.nsIn K mainGlobals "_law_of" = some (some (.ref f_of)))
    (kof : PySem.W.keepIn K (.ref f_of) = true)
    (F0of : FunD K "_law_of" "_law_of" (defArgs sOf) (defBody sOf) (defScope sOf) ([] : List V) ([] : List (Str × V)) f_of fd_of)
    (adue : PySem.W.nsIn K mainGlobals "_law_due" = some (some (.ref f_due)))
    (kdue : PySem.W.keepIn K (.ref f_due) = true)
    (F0due : FunD K "_law_due" "_law_due" (defArgs sDue) (defBody sDue) (defScope sDue) ([] : List V) ([] : List (Str × V)) f_due fd_due)
    (afnd : PySem.W.nsIn K mainGlobals "_law_found" = some (some (.ref f_fnd)))
    (kfnd : PySem.W.keepIn K (.ref f_fnd) = true)
    (F0fnd : FunD K "_law_found" "_law_found" (defArgs sFound) (defBody sFound) (defScope sFound) ([] : List V) ([] : List (Str × V)) f_fnd fd_fnd)
    (argt : PySem.W.nsIn K mainGlobals "_law_right" = some (some (.ref f_rgt)))
    (krgt : PySem.W.keepIn K (.ref f_rgt) = true)
    (F0rgt : FunD K "_law_right" "_law_right" (defArgs sRight) (defBody sRight) (defScope sRight) ([] : List V) ([] : List (Str × V)) f_rgt fd_rgt)
    (alaw : PySem.W.nsIn K mainGlobals "law" = some (some (.ref f_law)))
    (klaw : PySem.W.keepIn K (.ref f_law) = true)
    (F0law : FunD K "law" "law" (defArgs sLaw) (defBody sLaw) (defScope sLaw) ([] : List V) ([] : List (Str × V)) f_law fd_law)
    (axPr : PySem.W.findIn K (.ref CPr) "__init__" = some (some (.ref f_xPr)))
    (ixPr : PySem.W.isFn K (.ref f_xPr) = true)
    (kxPr : PySem.W.keepIn K (.ref f_xPr) = true)
    (F0xPr : FunD K "__init__" "NoProcess.__init__" (defArgs sNoProcessInit) (defBody sNoProcessInit) (defScope sNoProcessInit) ([] : List V) ([] : List (Str × V)) f_xPr fd_xPr)
    (axOp : PySem.W.findIn K (.ref COp) "__init__" = some (some (.ref f_xOp)))
    (ixOp : PySem.W.isFn K (.ref f_xOp) = true)
    (kxOp : PySem.W.keepIn K (.ref f_xOp) = true)
    (F0xOp : FunD K "__init__" "NotOpen.__init__" (defArgs sNotOpenInit) (defBody sNotOpenInit) (defScope sNotOpenInit) ([] : List V) ([] : List (Str × V)) f_xOp fd_xOp)
    (axNu : PySem.W.findIn K (.ref CNu) "__init__" = some (some (.ref f_xNu)))
    (ixNu : PySem.W.isFn K (.ref f_xNu) = true)
    (kxNu : PySem.W.keepIn K (.ref f_xNu) = true)
    (F0xNu : FunD K "__init__" "NoNumber.__init__" (defArgs sNoNumberInit) (defBody sNoNumberInit) (defScope sNoNumberInit) ([] : List V) ([] : List (Str × V)) f_xNu fd_xNu)
    (axNs : PySem.W.findIn K (.ref CNs) "__init__" = some (some (.ref f_xNs)))
    (ixNs : PySem.W.isFn K (.ref f_xNs) = true)
    (kxNs : PySem.W.keepIn K (.ref f_xNs) = true)
    (F0xNs : FunD K "__init__" "NotASource.__init__" (defArgs sNotASourceInit) (defBody sNotASourceInit) (defScope sNotASourceInit) ([] : List V) ([] : List (Str × V)) f_xNs fd_xNs)
    (axNt : PySem.W.findIn K (.ref CNt) "__init__" = some (some (.ref f_xNt)))
    (ixNt : PySem.W.isFn K (.ref f_xNt) = true)
    (kxNt : PySem.W.keepIn K (.ref f_xNt) = true)
    (F0xNt : FunD K "__init__" "NotASet.__init__" (defArgs sNotASetInit) (defBody sNotASetInit) (defScope sNotASetInit) ([] : List V) ([] : List (Str × V)) f_xNt fd_xNt)
    (axFu : PySem.W.findIn K (.ref CFu) "__init__" = some (some (.ref f_xFu)))
    (ixFu : PySem.W.isFn K (.ref f_xFu) = true)
    (kxFu : PySem.W.keepIn K (.ref f_xFu) = true)
    (F0xFu : FunD K "__init__" "Full.__init__" (defArgs sFullInit) (defBody sFullInit) (defScope sFullInit) ([] : List V) ([] : List (Str × V)) f_xFu fd_xFu)
    (axNo : PySem.W.findIn K (.ref CNo) "__init__" = some (some (.ref f_xNo)))
    (ixNo : PySem.W.isFn K (.ref f_xNo) = true)
    (kxNo : PySem.W.keepIn K (.ref f_xNo) = true)
    (F0xNo : FunD K "__init__" "NoRoom.__init__" (defArgs sNoRoomInit) (defBody sNoRoomInit) (defScope sNoRoomInit) ([] : List V) ([] : List (Str × V)) f_xNo fd_xNo)
    (axCo : PySem.W.findIn K (.ref CCo) "__init__" = some (some (.ref f_xCo)))
    (ixCo : PySem.W.isFn K (.ref f_xCo) = true)
    (kxCo : PySem.W.keepIn K (.ref f_xCo) = true)
    (F0xCo : FunD K "__init__" "BadCount.__init__" (defArgs sBadCountInit) (defBody sBadCountInit) (defScope sBadCountInit) ([] : List V) ([] : List (Str × V)) f_xCo fd_xCo)
    (axLa : PySem.W.findIn K (.ref CLa) "__init__" = some (some (.ref f_xLa)))
    (ixLa : PySem.W.isFn K (.ref f_xLa) = true)
    (kxLa : PySem.W.keepIn K (.ref f_xLa) = true)
    (F0xLa : FunD K "__init__" "BadLabel.__init__" (defArgs sBadLabelInit) (defBody sBadLabelInit) (defScope sBadLabelInit) ([] : List V) ([] : List (Str × V)) f_xLa fd_xLa)
    (axWo : PySem.W.findIn K (.ref CWo) "__init__" = some (some (.ref f_xWo)))
    (ixWo : PySem.W.isFn K (.ref f_xWo) = true)
    (kxWo : PySem.W.keepIn K (.ref f_xWo) = true)
    (F0xWo : FunD K "__init__" "BadWord.__init__" (defArgs sBadWordInit) (defBody sBadWordInit) (defScope sBadWordInit) ([] : List V) ([] : List (Str × V)) f_xWo fd_xWo)
    (axRg : PySem.W.findIn K (.ref CRg) "__init__" = some (some (.ref f_xRg)))
    (ixRg : PySem.W.isFn K (.ref f_xRg) = true)
    (kxRg : PySem.W.keepIn K (.ref f_xRg) = true)
    (F0xRg : FunD K "__init__" "Registered.__init__" (defArgs sRegisteredInit) (defBody sRegisteredInit) (defScope sRegisteredInit) ([] : List V) ([] : List (Str × V)) f_xRg fd_xRg)
    (axTa : PySem.W.findIn K (.ref CTa) "__init__" = some (some (.ref f_xTa)))
    (ixTa : PySem.W.isFn K (.ref f_xTa) = true)
    (kxTa : PySem.W.keepIn K (.ref f_xTa) = true)
    (F0xTa : FunD K "__init__" "Taken.__init__" (defArgs sTakenInit) (defBody sTakenInit) (defScope sTakenInit) ([] : List V) ([] : List (Str × V)) f_xTa fd_xTa)
    (ari : PySem.W.findIn K (.ref CR) "__init__" = some (some (.ref f_ri)))
    (iri : PySem.W.isFn K (.ref f_ri) = true)
    (kri : PySem.W.keepIn K (.ref f_ri) = true)
    (F0ri : FunD K "__init__" "Registration.__init__" (defArgs sRegInit) (defBody sRegInit) (defScope sRegInit) ([] : List V) ([] : List (Str × V)) f_ri fd_ri)
    (awi : PySem.W.findIn K (.ref CW) "__init__" = some (some (.ref f_wi)))
    (iwi : PySem.W.isFn K (.ref f_wi) = true)
    (kwi : PySem.W.keepIn K (.ref f_wi) = true)
    (F0wi : FunD K "__init__" "WaitingSet.__init__" (defArgs sWsInit) (defBody sWsInit) (defScope sWsInit) ([] : List V) ([] : List (Str × V)) f_wi fd_wi)
    (alof : PySem.W.findIn K (.ref CW) "label_of" = some (some (.ref f_lof)))
    (ilof : PySem.W.isFn K (.ref f_lof) = true)
    (klof : PySem.W.keepIn K (.ref f_lof) = true)
    (F0lof : FunD K "label_of" "WaitingSet.label_of" (defArgs sLabelOf) (defBody sLabelOf) (defScope sLabelOf) ([] : List V) ([] : List (Str × V)) f_lof fd_lof)
    (aput : PySem.W.findIn K (.ref CW) "put" = some (some (.ref f_put)))
    (iput : PySem.W.isFn K (.ref f_put) = true)
    (kput : PySem.W.keepIn K (.ref f_put) = true)
    (F0put : FunD K "put" "WaitingSet.put" (defArgs sPut) (defBody sPut) (defScope sPut) ([] : List V) ([] : List (Str × V)) f_put fd_put)
    (aapp : PySem.W.findIn K (.ref CW) "append_pending" = some (some (.ref f_app)))
    (iapp : PySem.W.isFn K (.ref f_app) = true)
    (kapp : PySem.W.keepIn K (.ref f_app) = true)
    (F0app : FunD K "append_pending" "WaitingSet.append_pending" (defArgs sAppend) (defBody sAppend) (defScope sAppend) ([] : List V) ([] : List (Str × V)) f_app fd_app)
    (adrp : PySem.W.findIn K (.ref CW) "drop" = some (some (.ref f_drp)))
    (idrp : PySem.W.isFn K (.ref f_drp) = true)
    (kdrp : PySem.W.keepIn K (.ref f_drp) = true)
    (F0drp : FunD K "drop" "WaitingSet.drop" (defArgs sDrop) (defBody sDrop) (defScope sDrop) ([] : List V) ([] : List (Str × V)) f_drp fd_drp)
    (adso : PySem.W.findIn K (.ref CW) "drop_source" = some (some (.ref f_dso)))
    (idso : PySem.W.isFn K (.ref f_dso) = true)
    (kdso : PySem.W.keepIn K (.ref f_dso) = true)
    (F0dso : FunD K "drop_source" "WaitingSet.drop_source" (defArgs sDropSource) (defBody sDropSource) (defScope sDropSource) ([] : List V) ([] : List (Str × V)) f_dso fd_dso)
    (asi : PySem.W.findIn K (.ref CS) "__init__" = some (some (.ref f_si)))
    (isi : PySem.W.isFn K (.ref f_si) = true)
    (ksi : PySem.W.keepIn K (.ref f_si) = true)
    (F0si : FunD K "__init__" "System.__init__" (defArgs sSysInit) (defBody sSysInit) (defScope sSysInit) ([] : List V) ([("processes", V.int 4), ("numbers", V.int 8)] : List (Str × V)) f_si fd_si)
    (acon : PySem.W.findIn K (.ref CS) "__contains__" = some (some (.ref f_con)))
    (icon : PySem.W.isFn K (.ref f_con) = true)
    (kcon : PySem.W.keepIn K (.ref f_con) = true)
    (F0con : FunD K "__contains__" "System.__contains__" (defArgs sContains) (defBody sContains) (defScope sContains) ([] : List V) ([] : List (Str × V)) f_con fd_con)
    (atof : PySem.W.findIn K (.ref CS) "table_of" = some (some (.ref f_tof)))
    (itof : PySem.W.isFn K (.ref f_tof) = true)
    (ktof : PySem.W.keepIn K (.ref f_tof) = true)
    (F0tof : FunD K "table_of" "System.table_of" (defArgs sTableOf) (defBody sTableOf) (defScope sTableOf) ([] : List V) ([] : List (Str × V)) f_tof fd_tof)
    (aitn : PySem.W.findIn K (.ref CS) "is_table_number" = some (some (.ref f_itn)))
    (iitn : PySem.W.isFn K (.ref f_itn) = true)
    (kitn : PySem.W.keepIn K (.ref f_itn) = true)
    (F0itn : FunD K "is_table_number" "System.is_table_number" (defArgs sIsTabNum) (defBody sIsTabNum) (defScope sIsTabNum) ([] : List V) ([] : List (Str × V)) f_itn fd_itn)
    (atha : PySem.W.findIn K (.ref CS) "thing_at" = some (some (.ref f_tha)))
    (itha : PySem.W.isFn K (.ref f_tha) = true)
    (ktha : PySem.W.keepIn K (.ref f_tha) = true)
    (F0tha : FunD K "thing_at" "System.thing_at" (defArgs sThingAt) (defBody sThingAt) (defScope sThingAt) ([] : List V) ([] : List (Str × V)) f_tha fd_tha)
    (asra : PySem.W.findIn K (.ref CS) "source_at" = some (some (.ref f_sra)))
    (isra : PySem.W.isFn K (.ref f_sra) = true)
    (ksra : PySem.W.keepIn K (.ref f_sra) = true)
    (F0sra : FunD K "source_at" "System.source_at" (defArgs sSourceAt) (defBody sSourceAt) (defScope sSourceAt) ([] : List V) ([] : List (Str × V)) f_sra fd_sra)
    (asta : PySem.W.findIn K (.ref CS) "set_at" = some (some (.ref f_sta)))
    (ista : PySem.W.isFn K (.ref f_sta) = true)
    (ksta : PySem.W.keepIn K (.ref f_sta) = true)
    (F0sta : FunD K "set_at" "System.set_at" (defArgs sSetAt) (defBody sSetAt) (defScope sSetAt) ([] : List V) ([] : List (Str × V)) f_sta fd_sta)
    (afrn : PySem.W.findIn K (.ref CS) "free_number" = some (some (.ref f_frn)))
    (ifrn : PySem.W.isFn K (.ref f_frn) = true)
    (kfrn : PySem.W.keepIn K (.ref f_frn) = true)
    (F0frn : FunD K "free_number" "System.free_number" (defArgs sFreeNum) (defBody sFreeNum) (defScope sFreeNum) ([] : List V) ([] : List (Str × V)) f_frn fd_frn)
    (anth : PySem.W.findIn K (.ref CS) "new_thing" = some (some (.ref f_nth)))
    (inth : PySem.W.isFn K (.ref f_nth) = true)
    (knth : PySem.W.keepIn K (.ref f_nth) = true)
    (F0nth : FunD K "new_thing" "System.new_thing" (defArgs sNewThing) (defBody sNewThing) (defScope sNewThing) ([] : List V) ([] : List (Str × V)) f_nth fd_nth)
    (anso : PySem.W.findIn K (.ref CS) "new_source" = some (some (.ref f_nso)))
    (inso : PySem.W.isFn K (.ref f_nso) = true)
    (knso : PySem.W.keepIn K (.ref f_nso) = true)
    (F0nso : FunD K "new_source" "System.new_source" (defArgs sNewSource) (defBody sNewSource) (defScope sNewSource) ([] : List V) ([] : List (Str × V)) f_nso fd_nso)
    (anse : PySem.W.findIn K (.ref CS) "new_set" = some (some (.ref f_nse)))
    (inse : PySem.W.isFn K (.ref f_nse) = true)
    (knse : PySem.W.keepIn K (.ref f_nse) = true)
    (F0nse : FunD K "new_set" "System.new_set" (defArgs sNewSet) (defBody sNewSet) (defScope sNewSet) ([] : List V) ([] : List (Str × V)) f_nse fd_nse)
    (ardy : PySem.W.findIn K (.ref CS) "is_ready" = some (some (.ref f_rdy)))
    (irdy : PySem.W.isFn K (.ref f_rdy) = true)
    (krdy : PySem.W.keepIn K (.ref f_rdy) = true)
    (F0rdy : FunD K "is_ready" "System.is_ready" (defArgs sIsReady) (defBody sIsReady) (defScope sIsReady) ([] : List V) ([] : List (Str × V)) f_rdy fd_rdy)
    (aetg : PySem.W.findIn K (.ref CS) "end_thing" = some (some (.ref f_etg)))
    (ietg : PySem.W.isFn K (.ref f_etg) = true)
    (ketg : PySem.W.keepIn K (.ref f_etg) = true)
    (F0etg : FunD K "end_thing" "System.end_thing" (defArgs sEndThing) (defBody sEndThing) (defScope sEndThing) ([] : List V) ([] : List (Str × V)) f_etg fd_etg)
    (aadd : PySem.W.findIn K (.ref CS) "add" = some (some (.ref f_add)))
    (iadd : PySem.W.isFn K (.ref f_add) = true)
    (kadd : PySem.W.keepIn K (.ref f_add) = true)
    (F0add : FunD K "add" "System.add" (defArgs sAdd) (defBody sAdd) (defScope sAdd) ([] : List V) ([("word", V.str "level")] : List (Str × V)) f_add fd_add)
    (afre : PySem.W.findIn K (.ref CS) "free" = some (some (.ref f_fre)))
    (ifre : PySem.W.isFn K (.ref f_fre) = true)
    (kfre : PySem.W.keepIn K (.ref f_fre) = true)
    (F0fre : FunD K "free" "System.free" (defArgs sFree) (defBody sFree) (defScope sFree) ([] : List V) ([] : List (Str × V)) f_fre fd_fre)
    (aclo : PySem.W.findIn K (.ref CS) "close" = some (some (.ref f_clo)))
    (iclo : PySem.W.isFn K (.ref f_clo) = true)
    (kclo : PySem.W.keepIn K (.ref f_clo) = true)
    (F0clo : FunD K "close" "System.close" (defArgs sClose) (defBody sClose) (defScope sClose) ([] : List V) ([] : List (Str × V)) f_clo fd_clo)
    (acpy : PySem.W.findIn K (.ref CS) "copy" = some (some (.ref f_cpy)))
    (icpy : PySem.W.isFn K (.ref f_cpy) = true)
    (kcpy : PySem.W.keepIn K (.ref f_cpy) = true)
    (F0cpy : FunD K "copy" "System.copy" (defArgs sCopy) (defBody sCopy) (defScope sCopy) ([V.non] : List V) ([] : List (Str × V)) f_cpy fd_cpy)
    (afrp : PySem.W.findIn K (.ref CS) "free_process" = some (some (.ref f_frp)))
    (ifrp : PySem.W.isFn K (.ref f_frp) = true)
    (kfrp : PySem.W.keepIn K (.ref f_frp) = true)
    (F0frp : FunD K "free_process" "System.free_process" (defArgs sFreeProc) (defBody sFreeProc) (defScope sFreeProc) ([] : List V) ([] : List (Str × V)) f_frp fd_frp)
    (afrk : PySem.W.findIn K (.ref CS) "fork" = some (some (.ref f_frk)))
    (ifrk : PySem.W.isFn K (.ref f_frk) = true)
    (kfrk : PySem.W.keepIn K (.ref f_frk) = true)
    (F0frk : FunD K "fork" "System.fork" (defArgs sFork) (defBody sFork) (defScope sFork) ([] : List V) ([] : List (Str × V)) f_frk fd_frk)
    (atng : PySem.W.findIn K (.ref CS) "things" = some (some (.ref f_tng)))
    (itng : PySem.W.isFn K (.ref f_tng) = true)
    (ktng : PySem.W.keepIn K (.ref f_tng) = true)
    (F0tng : FunD K "things" "System.things" (defArgs sThings) (defBody sThings) (defScope sThings) ([] : List V) ([] : List (Str × V)) f_tng fd_tng)
    (anof : PySem.W.findIn K (.ref CS) "numbers_of" = some (some (.ref f_nof)))
    (inof : PySem.W.isFn K (.ref f_nof) = true)
    (knof : PySem.W.keepIn K (.ref f_nof) = true)
    (F0nof : FunD K "numbers_of" "System.numbers_of" (defArgs sNumbersOf) (defBody sNumbersOf) (defScope sNumbersOf) ([] : List V) ([] : List (Str × V)) f_nof fd_nof)
    (anam : PySem.W.findIn K (.ref CS) "name_of" = some (some (.ref f_nam)))
    (inam : PySem.W.isFn K (.ref f_nam) = true)
    (knam : PySem.W.keepIn K (.ref f_nam) = true)
    (F0nam : FunD K "name_of" "System.name_of" (defArgs sNameOf) (defBody sNameOf) (defScope sNameOf) ([] : List V) ([] : List (Str × V)) f_nam fd_nam)
    (areg : PySem.W.findIn K (.ref CS) "registrations" = some (some (.ref f_reg)))
    (ireg : PySem.W.isFn K (.ref f_reg) = true)
    (kreg : PySem.W.keepIn K (.ref f_reg) = true)
    (F0reg : FunD K "registrations" "System.registrations" (defArgs sRegistrations) (defBody sRegistrations) (defScope sRegistrations) ([] : List V) ([] : List (Str × V)) f_reg fd_reg)
    (xtIPr : PySem.W.typeIn K (.ref f_xPr) = some (.type "function"))
    (xtIOp : PySem.W.typeIn K (.ref f_xOp) = some (.type "function"))
    (xtINu : PySem.W.typeIn K (.ref f_xNu) = some (.type "function"))
    (xtINs : PySem.W.typeIn K (.ref f_xNs) = some (.type "function"))
    (xtINt : PySem.W.typeIn K (.ref f_xNt) = some (.type "function"))
    (xtIFu : PySem.W.typeIn K (.ref f_xFu) = some (.type "function"))
    (xtINo : PySem.W.typeIn K (.ref f_xNo) = some (.type "function"))
    (xtICo : PySem.W.typeIn K (.ref f_xCo) = some (.type "function"))
    (xtILa : PySem.W.typeIn K (.ref f_xLa) = some (.type "function"))
    (xtIWo : PySem.W.typeIn K (.ref f_xWo) = some (.type "function"))
    (xtIRg : PySem.W.typeIn K (.ref f_xRg) = some (.type "function"))
    (xtITa : PySem.W.typeIn K (.ref f_xTa) = some (.type "function"))
    (z_len : PySem.W.nsIn K mainGlobals "len" = some none)
    (z_enumerate : PySem.W.nsIn K mainGlobals "enumerate" = some none)
    (z_int : PySem.W.nsIn K mainGlobals "int" = some none)
    (z_abs : PySem.W.nsIn K mainGlobals "abs" = some none)
    (z_isinstance : PySem.W.nsIn K mainGlobals "isinstance" = some none)
    (z_bool : PySem.W.nsIn K mainGlobals "bool" = some none)
    (z_list : PySem.W.nsIn K mainGlobals "list" = some none)
    (z_min : PySem.W.nsIn K mainGlobals "min" = some none)
    (z_max : PySem.W.nsIn K mainGlobals "max" = some none)
    (z_range : PySem.W.nsIn K mainGlobals "range" = some none)
    (z_sorted : PySem.W.nsIn K mainGlobals "sorted" = some none)
    (z_any : PySem.W.nsIn K mainGlobals "any" = some none)
    (z_dict : PySem.W.nsIn K mainGlobals "dict" = some none)
    (z_tuple : PySem.W.nsIn K mainGlobals "tuple" = some none)
    (z_LookupError : PySem.W.nsIn K mainGlobals "LookupError" = some none)
    (z_RuntimeError : PySem.W.nsIn K mainGlobals "RuntimeError" = some none)
    (z_TypeError : PySem.W.nsIn K mainGlobals "TypeError" = some none)
    (z_ValueError : PySem.W.nsIn K mainGlobals "ValueError" = some none)
    (z_OverflowError : PySem.W.nsIn K mainGlobals "OverflowError" = some none)
    (wA : PySem.W.nsIn K mainGlobals "WORDS" = some (some (.ref wW)))
    (LW0 : K.lookup wW = some ⟨.type "tuple", dW, .seq #[.str "level" tW0, .str "edge" tW1, .str "once" tW2] nW, sW⟩)
    (gMC : PySem.W.nsIn K mainGlobals "MOST_COUNT" = some (some (.int 1000000 tMC)))
    (gML : PySem.W.nsIn K mainGlobals "MOST_LABEL" = some (some (.int 999999 tML)))
    (gLP : PySem.W.nsIn K mainGlobals "LEAST_PROCESSES" = some (some (.int 2 tLP)))
    (gLN : PySem.W.nsIn K mainGlobals "LEAST_NUMBERS" = some (some (.int 3 tLN)))
    (gMP : PySem.W.findIn K (.ref CS) "MOST_PROCESSES" = some (some (.int 6 tMP)))
    (sMP : PySem.W.specialIn K (.int 6 tMP) "__get__" = some none)
    (gMN : PySem.W.findIn K (.ref CS) "MOST_NUMBERS" = some (some (.int 8 tMN)))
    (sMN : PySem.W.specialIn K (.int 8 tMN) "__get__" = some none) :
    ∃ fd : FuncData, (∀ (s : Shared) (u : Value), BindsTo s fd ⟨[u], []⟩ [("_law_script", u)]) ∧ ∀ base : Heap, K.In base → base.Ns mainGlobals mg → FnOk P w K mg base CX0 9 fa fd ["_law_script"] (spLaw K) := by
  have e := hfa.symm.trans (PySem.W.mg_of X G alaw)
  cases e
  obtain ⟨oc_int, od_int, kV_int, dc_int, pm_int, an_int, cd_int, ct_int, sl_int, ef_int, lk_int, hc_int⟩ := (fun_of F0int).ex
  subst ef_int
  have Fint := fun_of (st := sIsInteger) F0int
  have bint := Fint.binds (ps := ["x"]) fun _ _ _ _ _ _ us hl => by
    obtain ⟨_, rfl⟩ := Ln1 hl
    rfl
  have mint := PySem.W.mg_of X G aint
  obtain ⟨oc_bet, od_bet, kV_bet, dc_bet, pm_bet, an_bet, cd_bet, ct_bet, sl_bet, ef_bet, lk_bet, hc_bet⟩ := (fun_of F0bet).ex
  subst ef_bet
  have Fbet := fun_of (st := sIsBetween) F0bet
  have bbet := Fbet.binds (ps := ["x", "least", "most"]) fun _ _ _ _ _ _ us hl => by
    obtain ⟨_, _, _, rfl⟩ := Ln3 hl
    rfl
  have mbet := PySem.W.mg_of X G abet
  obtain ⟨oc_lab, od_lab, kV_lab, dc_lab, pm_lab, an_lab, cd_lab, ct_lab, sl_lab, ef_lab, lk_lab, hc_lab⟩ := (fun_of F0lab).ex
  subst ef_lab
  have Flab := fun_of (st := sIsLabel) F0lab
  have blab := Flab.binds (ps := ["x"]) fun _ _ _ _ _ _ us hl => by
    obtain ⟨_, rfl⟩ := Ln1 hl
    rfl
  have mlab := PySem.W.mg_of X G alab
  obtain ⟨oc_wrd, od_wrd, kV_wrd, dc_wrd, pm_wrd, an_wrd, cd_wrd, ct_wrd, sl_wrd, ef_wrd, lk_wrd, hc_wrd⟩ := (fun_of F0wrd).ex
  subst ef_wrd
  have Fwrd := fun_of (st := sIsWord) F0wrd
  have bwrd := Fwrd.binds (ps := ["x"]) fun _ _ _ _ _ _ us hl => by
    obtain ⟨_, rfl⟩ := Ln1 hl
    rfl
  have mwrd := PySem.W.mg_of X G awrd
  obtain ⟨oc_snm, od_snm, kV_snm, dc_snm, pm_snm, an_snm, cd_snm, ct_snm, sl_snm, ef_snm, lk_snm, hc_snm⟩ := (fun_of F0snm).ex
  subst ef_snm
  have Fsnm := fun_of (st := sSetNamed) F0snm
  have bsnm := Fsnm.binds (ps := ["system", "set_name"]) fun _ _ _ _ _ _ us hl => by
    obtain ⟨_, _, rfl⟩ := Ln2 hl
    rfl
  have msnm := PySem.W.mg_of X G asnm
  obtain ⟨oc_rnm, od_rnm, kV_rnm, dc_rnm, pm_rnm, an_rnm, cd_rnm, ct_rnm, sl_rnm, ef_rnm, lk_rnm, hc_rnm⟩ := (fun_of F0rnm).ex
  subst ef_rnm
  have Frnm := fun_of (st := sRegNamed) F0rnm
  have brnm := Frnm.binds (ps := ["system", "set_name", "label"]) fun _ _ _ _ _ _ us hl => by
    obtain ⟨_, _, _, rfl⟩ := Ln3 hl
    rfl
  have mrnm := PySem.W.mg_of X G arnm
  obtain ⟨oc_hld, od_hld, kV_hld, dc_hld, pm_hld, an_hld, cd_hld, ct_hld, sl_hld, ef_hld, lk_hld, hc_hld⟩ := (fun_of F0hld).ex
  subst ef_hld
  have Fhld := fun_of (st := sHeldTogether) F0hld
  have bhld := Fhld.binds (ps := ["system", "thing", "other"]) fun _ _ _ _ _ _ us hl => by
    obtain ⟨_, _, _, rfl⟩ := Ln3 hl
    rfl
  have mhld := PySem.W.mg_of X G ahld
  obtain ⟨oc_isr, od_isr, kV_isr, dc_isr, pm_isr, an_isr, cd_isr, ct_isr, sl_isr, ef_isr, lk_isr, hc_isr⟩ := (fun_of F0isr).ex
  subst ef_isr
  have Fisr := fun_of (st := sIsReached) F0isr
  have bisr := Fisr.binds (ps := ["system", "set_name", "label"]) fun _ _ _ _ _ _ us hl => by
    obtain ⟨_, _, _, rfl⟩ := Ln3 hl
    rfl
  have misr := PySem.W.mg_of X G aisr
  obtain ⟨oc_iss, od_iss, kV_iss, dc_iss, pm_iss, an_iss, cd_iss, ct_iss, sl_iss, ef_iss, lk_iss, hc_iss⟩ := (fun_of F0iss).ex
  subst ef_iss
  have Fiss := fun_of (st := sIsSealed) F0iss
  have biss := Fiss.binds (ps := ["system", "set_name", "label"]) fun _ _ _ _ _ _ us hl => by
    obtain ⟨_, _, _, rfl⟩ := Ln3 hl
    rfl
  have miss := PySem.W.mg_of X G aiss
  obtain ⟨oc_bag, od_bag, kV_bag, dc_bag, pm_bag, an_bag, cd_bag, ct_bag, sl_bag, ef_bag, lk_bag, hc_bag⟩ := (fun_of F0bag).ex
  subst ef_bag
  have Fbag := fun_of (st := sBag) F0bag
  have bbag := Fbag.binds (ps := ["_law_script", "_law_at"]) fun _ _ _ _ _ _ us hl => by
    obtain ⟨_, _, rfl⟩ := Ln2 hl
    rfl
  have mbag := PySem.W.mg_of X G abag
  obtain ⟨oc_take, od_take, kV_take, dc_take, pm_take, an_take, cd_take, ct_take, sl_take, ef_take, lk_take, hc_take⟩ := (fun_of F0take).ex
  subst ef_take
  have Ftake := fun_of (st := sTake) F0take
  have btake := Ftake.binds (ps := ["_law_bag_here", "_law_many"]) fun _ _ _ _ _ _ us hl => by
    obtain ⟨_, _, rfl⟩ := Ln2 hl
    rfl
  have mtake := PySem.W.mg_of X G atake
  obtain ⟨oc_of, od_of, kV_of, dc_of, pm_of, an_of, cd_of, ct_of, sl_of, ef_of, lk_of, hc_of⟩ := (fun_of F0of).ex
  subst ef_of
  have Fof := fun_of (st := sOf) F0of
  have bof := Fof.binds (ps := ["_law_bag_here", "_law_some"]) fun _ _ _ _ _ _ us hl => by
    obtain ⟨_, _, rfl⟩ := Ln2 hl
    rfl
  have mof := PySem.W.mg_of X G aof
  obtain ⟨oc_due, od_due, kV_due, dc_due, pm_due, an_due, cd_due, ct_due, sl_due, ef_due, lk_due, hc_due⟩ := (fun_of F0due).ex
  subst ef_due
  have Fdue := fun_of (st := sDue) F0due
  have bdue := Fdue.binds (ps := ["_law_tables", "_law_n"]) fun _ _ _ _ _ _ us hl => by
    obtain ⟨_, _, rfl⟩ := Ln2 hl
    rfl
  have mdue := PySem.W.mg_of X G adue
  obtain ⟨oc_fnd, od_fnd, kV_fnd, dc_fnd, pm_fnd, an_fnd, cd_fnd, ct_fnd, sl_fnd, ef_fnd, lk_fnd, hc_fnd⟩ := (fun_of F0fnd).ex
  subst ef_fnd
  have Ffnd := fun_of (st := sFound) F0fnd
  have bfnd := Ffnd.binds (ps := ["_law_box", "_law_label"]) fun _ _ _ _ _ _ us hl => by
    obtain ⟨_, _, rfl⟩ := Ln2 hl
    rfl
  have mfnd := PySem.W.mg_of X G afnd
  obtain ⟨oc_rgt, od_rgt, kV_rgt, dc_rgt, pm_rgt, an_rgt, cd_rgt, ct_rgt, sl_rgt, ef_rgt, lk_rgt, hc_rgt⟩ := (fun_of F0rgt).ex
  subst ef_rgt
  have Frgt := fun_of (st := sRight) F0rgt
  have brgt := Frgt.binds (ps := ["_law_box", "_law_tables", "_law_n", "_law_label"]) fun _ _ _ _ _ _ us hl => by
    obtain ⟨_, _, _, _, rfl⟩ := Ln4 hl
    rfl
  have mrgt := PySem.W.mg_of X G argt
  obtain ⟨oc_law, od_law, kV_law, dc_law, pm_law, an_law, cd_law, ct_law, sl_law, ef_law, lk_law, hc_law⟩ := (fun_of F0law).ex
  subst ef_law
  have Flaw := fun_of (st := sLaw) F0law
  have blaw := Flaw.binds (ps := ["_law_script"]) fun _ _ _ _ _ _ us hl => by
    obtain ⟨_, rfl⟩ := Ln1 hl
    rfl
  have mlaw := PySem.W.mg_of X G alaw
  obtain ⟨oc_xPr, od_xPr, kV_xPr, dc_xPr, pm_xPr, an_xPr, cd_xPr, ct_xPr, sl_xPr, ef_xPr, lk_xPr, hc_xPr⟩ := (fun_of F0xPr).ex
  subst ef_xPr
  have FxPr := fun_of (st := sNoProcessInit) F0xPr
  have bxPr := FxPr.binds (ps := ["self", "process"]) fun _ _ _ _ _ _ us hl => by
    obtain ⟨_, _, rfl⟩ := Ln2 hl
    rfl
  obtain ⟨oc_xOp, od_xOp, kV_xOp, dc_xOp, pm_xOp, an_xOp, cd_xOp, ct_xOp, sl_xOp, ef_xOp, lk_xOp, hc_xOp⟩ := (fun_of F0xOp).ex
  subst ef_xOp
  have FxOp := fun_of (st := sNotOpenInit) F0xOp
  have bxOp := FxOp.binds (ps := ["self", "number"]) fun _ _ _ _ _ _ us hl => by
    obtain ⟨_, _, rfl⟩ := Ln2 hl
    rfl
  obtain ⟨oc_xNu, od_xNu, kV_xNu, dc_xNu, pm_xNu, an_xNu, cd_xNu, ct_xNu, sl_xNu, ef_xNu, lk_xNu, hc_xNu⟩ := (fun_of F0xNu).ex
  subst ef_xNu
  have FxNu := fun_of (st := sNoNumberInit) F0xNu
  have bxNu := FxNu.binds (ps := ["self", "number"]) fun _ _ _ _ _ _ us hl => by
    obtain ⟨_, _, rfl⟩ := Ln2 hl
    rfl
  obtain ⟨oc_xNs, od_xNs, kV_xNs, dc_xNs, pm_xNs, an_xNs, cd_xNs, ct_xNs, sl_xNs, ef_xNs, lk_xNs, hc_xNs⟩ := (fun_of F0xNs).ex
  subst ef_xNs
  have FxNs := fun_of (st := sNotASourceInit) F0xNs
  have bxNs := FxNs.binds (ps := ["self", "number"]) fun _ _ _ _ _ _ us hl => by
    obtain ⟨_, _, rfl⟩ := Ln2 hl
    rfl
  obtain ⟨oc_xNt, od_xNt, kV_xNt, dc_xNt, pm_xNt, an_xNt, cd_xNt, ct_xNt, sl_xNt, ef_xNt, lk_xNt, hc_xNt⟩ := (fun_of F0xNt).ex
  subst ef_xNt
  have FxNt := fun_of (st := sNotASetInit) F0xNt
  have bxNt := FxNt.binds (ps := ["self", "number"]) fun _ _ _ _ _ _ us hl => by
    obtain ⟨_, _, rfl⟩ := Ln2 hl
    rfl
  obtain ⟨oc_xFu, od_xFu, kV_xFu, dc_xFu, pm_xFu, an_xFu, cd_xFu, ct_xFu, sl_xFu, ef_xFu, lk_xFu, hc_xFu⟩ := (fun_of F0xFu).ex
  subst ef_xFu
  have FxFu := fun_of (st := sFullInit) F0xFu
  have bxFu := FxFu.binds (ps := ["self", "process"]) fun _ _ _ _ _ _ us hl => by
    obtain ⟨_, _, rfl⟩ := Ln2 hl
    rfl
  obtain ⟨oc_xNo, od_xNo, kV_xNo, dc_xNo, pm_xNo, an_xNo, cd_xNo, ct_xNo, sl_xNo, ef_xNo, lk_xNo, hc_xNo⟩ := (fun_of F0xNo).ex
  subst ef_xNo
  have FxNo := fun_of (st := sNoRoomInit) F0xNo
  have bxNo := FxNo.binds (ps := ["self"]) fun _ _ _ _ _ _ us hl => by
    obtain ⟨_, rfl⟩ := Ln1 hl
    rfl
  obtain ⟨oc_xCo, od_xCo, kV_xCo, dc_xCo, pm_xCo, an_xCo, cd_xCo, ct_xCo, sl_xCo, ef_xCo, lk_xCo, hc_xCo⟩ := (fun_of F0xCo).ex
  subst ef_xCo
  have FxCo := fun_of (st := sBadCountInit) F0xCo
  have bxCo := FxCo.binds (ps := ["self", "count"]) fun _ _ _ _ _ _ us hl => by
    obtain ⟨_, _, rfl⟩ := Ln2 hl
    rfl
  obtain ⟨oc_xLa, od_xLa, kV_xLa, dc_xLa, pm_xLa, an_xLa, cd_xLa, ct_xLa, sl_xLa, ef_xLa, lk_xLa, hc_xLa⟩ := (fun_of F0xLa).ex
  subst ef_xLa
  have FxLa := fun_of (st := sBadLabelInit) F0xLa
  have bxLa := FxLa.binds (ps := ["self", "label"]) fun _ _ _ _ _ _ us hl => by
    obtain ⟨_, _, rfl⟩ := Ln2 hl
    rfl
  obtain ⟨oc_xWo, od_xWo, kV_xWo, dc_xWo, pm_xWo, an_xWo, cd_xWo, ct_xWo, sl_xWo, ef_xWo, lk_xWo, hc_xWo⟩ := (fun_of F0xWo).ex
  subst ef_xWo
  have FxWo := fun_of (st := sBadWordInit) F0xWo
  have bxWo := FxWo.binds (ps := ["self", "word"]) fun _ _ _ _ _ _ us hl => by
    obtain ⟨_, _, rfl⟩ := Ln2 hl
    rfl
  obtain ⟨oc_xRg, od_xRg, kV_xRg, dc_xRg, pm_xRg, an_xRg, cd_xRg, ct_xRg, sl_xRg, ef_xRg, lk_xRg, hc_xRg⟩ := (fun_of F0xRg).ex
  subst ef_xRg
  have FxRg := fun_of (st := sRegisteredInit) F0xRg
  have bxRg := FxRg.binds (ps := ["self", "number"]) fun _ _ _ _ _ _ us hl => by
    obtain ⟨_, _, rfl⟩ := Ln2 hl
    rfl
  obtain ⟨oc_xTa, od_xTa, kV_xTa, dc_xTa, pm_xTa, an_xTa, cd_xTa, ct_xTa, sl_xTa, ef_xTa, lk_xTa, hc_xTa⟩ := (fun_of F0xTa).ex
  subst ef_xTa
  have FxTa := fun_of (st := sTakenInit) F0xTa
  have bxTa := FxTa.binds (ps := ["self", "label"]) fun _ _ _ _ _ _ us hl => by
    obtain ⟨_, _, rfl⟩ := Ln2 hl
    rfl
  obtain ⟨oc_ri, od_ri, kV_ri, dc_ri, pm_ri, an_ri, cd_ri, ct_ri, sl_ri, ef_ri, lk_ri, hc_ri⟩ := (fun_of F0ri).ex
  subst ef_ri
  have Fri := fun_of (st := sRegInit) F0ri
  have bri := Fri.binds (ps := ["self", "number", "source", "word", "armed"]) fun _ _ _ _ _ _ us hl => by
    obtain ⟨_, _, _, _, _, rfl⟩ := Ln5 hl
    rfl
  obtain ⟨oc_wi, od_wi, kV_wi, dc_wi, pm_wi, an_wi, cd_wi, ct_wi, sl_wi, ef_wi, lk_wi, hc_wi⟩ := (fun_of F0wi).ex
  subst ef_wi
  have Fwi := fun_of (st := sWsInit) F0wi
  have bwi := Fwi.binds (ps := ["self"]) fun _ _ _ _ _ _ us hl => by
    obtain ⟨_, rfl⟩ := Ln1 hl
    rfl
  obtain ⟨oc_lof, od_lof, kV_lof, dc_lof, pm_lof, an_lof, cd_lof, ct_lof, sl_lof, ef_lof, lk_lof, hc_lof⟩ := (fun_of F0lof).ex
  subst ef_lof
  have Flof := fun_of (st := sLabelOf) F0lof
  have blof := Flof.binds (ps := ["self", "number", "source"]) fun _ _ _ _ _ _ us hl => by
    obtain ⟨_, _, _, rfl⟩ := Ln3 hl
    rfl
  obtain ⟨oc_put, od_put, kV_put, dc_put, pm_put, an_put, cd_put, ct_put, sl_put, ef_put, lk_put, hc_put⟩ := (fun_of F0put).ex
  subst ef_put
  have Fput := fun_of (st := sPut) F0put
  have bput := Fput.binds (ps := ["self", "label", "kept", "ready"]) fun _ _ _ _ _ _ us hl => by
    obtain ⟨_, _, _, _, rfl⟩ := Ln4 hl
    rfl
  obtain ⟨oc_app, od_app, kV_app, dc_app, pm_app, an_app, cd_app, ct_app, sl_app, ef_app, lk_app, hc_app⟩ := (fun_of F0app).ex
  subst ef_app
  have Fapp := fun_of (st := sAppend) F0app
  have bapp := Fapp.binds (ps := ["self", "label"]) fun _ _ _ _ _ _ us hl => by
    obtain ⟨_, _, rfl⟩ := Ln2 hl
    rfl
  obtain ⟨oc_drp, od_drp, kV_drp, dc_drp, pm_drp, an_drp, cd_drp, ct_drp, sl_drp, ef_drp, lk_drp, hc_drp⟩ := (fun_of F0drp).ex
  subst ef_drp
  have Fdrp := fun_of (st := sDrop) F0drp
  have bdrp := Fdrp.binds (ps := ["self", "label"]) fun _ _ _ _ _ _ us hl => by
    obtain ⟨_, _, rfl⟩ := Ln2 hl
    rfl
  obtain ⟨oc_dso, od_dso, kV_dso, dc_dso, pm_dso, an_dso, cd_dso, ct_dso, sl_dso, ef_dso, lk_dso, hc_dso⟩ := (fun_of F0dso).ex
  subst ef_dso
  have Fdso := fun_of (st := sDropSource) F0dso
  have bdso := Fdso.binds (ps := ["self", "source"]) fun _ _ _ _ _ _ us hl => by
    obtain ⟨_, _, rfl⟩ := Ln2 hl
    rfl
  have Fsi := F0si
  obtain ⟨oc_con, od_con, kV_con, dc_con, pm_con, an_con, cd_con, ct_con, sl_con, ef_con, lk_con, hc_con⟩ := (fun_of F0con).ex
  subst ef_con
  have Fcon := fun_of (st := sContains) F0con
  have bcon := Fcon.binds (ps := ["self", "x"]) fun _ _ _ _ _ _ us hl => by
    obtain ⟨_, _, rfl⟩ := Ln2 hl
    rfl
  obtain ⟨oc_tof, od_tof, kV_tof, dc_tof, pm_tof, an_tof, cd_tof, ct_tof, sl_tof, ef_tof, lk_tof, hc_tof⟩ := (fun_of F0tof).ex
  subst ef_tof
  have Ftof := fun_of (st := sTableOf) F0tof
  have btof := Ftof.binds (ps := ["self", "process"]) fun _ _ _ _ _ _ us hl => by
    obtain ⟨_, _, rfl⟩ := Ln2 hl
    rfl
  obtain ⟨oc_itn, od_itn, kV_itn, dc_itn, pm_itn, an_itn, cd_itn, ct_itn, sl_itn, ef_itn, lk_itn, hc_itn⟩ := (fun_of F0itn).ex
  subst ef_itn
  have Fitn := fun_of (st := sIsTabNum) F0itn
  have bitn := Fitn.binds (ps := ["self", "number"]) fun _ _ _ _ _ _ us hl => by
    obtain ⟨_, _, rfl⟩ := Ln2 hl
    rfl
  obtain ⟨oc_tha, od_tha, kV_tha, dc_tha, pm_tha, an_tha, cd_tha, ct_tha, sl_tha, ef_tha, lk_tha, hc_tha⟩ := (fun_of F0tha).ex
  subst ef_tha
  have Ftha := fun_of (st := sThingAt) F0tha
  have btha := Ftha.binds (ps := ["self", "process", "number"]) fun _ _ _ _ _ _ us hl => by
    obtain ⟨_, _, _, rfl⟩ := Ln3 hl
    rfl
  obtain ⟨oc_sra, od_sra, kV_sra, dc_sra, pm_sra, an_sra, cd_sra, ct_sra, sl_sra, ef_sra, lk_sra, hc_sra⟩ := (fun_of F0sra).ex
  subst ef_sra
  have Fsra := fun_of (st := sSourceAt) F0sra
  have bsra := Fsra.binds (ps := ["self", "process", "number"]) fun _ _ _ _ _ _ us hl => by
    obtain ⟨_, _, _, rfl⟩ := Ln3 hl
    rfl
  obtain ⟨oc_sta, od_sta, kV_sta, dc_sta, pm_sta, an_sta, cd_sta, ct_sta, sl_sta, ef_sta, lk_sta, hc_sta⟩ := (fun_of F0sta).ex
  subst ef_sta
  have Fsta := fun_of (st := sSetAt) F0sta
  have bsta := Fsta.binds (ps := ["self", "process", "set_number"]) fun _ _ _ _ _ _ us hl => by
    obtain ⟨_, _, _, rfl⟩ := Ln3 hl
    rfl
  obtain ⟨oc_frn, od_frn, kV_frn, dc_frn, pm_frn, an_frn, cd_frn, ct_frn, sl_frn, ef_frn, lk_frn, hc_frn⟩ := (fun_of F0frn).ex
  subst ef_frn
  have Ffrn := fun_of (st := sFreeNum) F0frn
  have bfrn := Ffrn.binds (ps := ["self", "process"]) fun _ _ _ _ _ _ us hl => by
    obtain ⟨_, _, rfl⟩ := Ln2 hl
    rfl
  obtain ⟨oc_nth, od_nth, kV_nth, dc_nth, pm_nth, an_nth, cd_nth, ct_nth, sl_nth, ef_nth, lk_nth, hc_nth⟩ := (fun_of F0nth).ex
  subst ef_nth
  have Fnth := fun_of (st := sNewThing) F0nth
  have bnth := Fnth.binds (ps := ["self", "process"]) fun _ _ _ _ _ _ us hl => by
    obtain ⟨_, _, rfl⟩ := Ln2 hl
    rfl
  obtain ⟨oc_nso, od_nso, kV_nso, dc_nso, pm_nso, an_nso, cd_nso, ct_nso, sl_nso, ef_nso, lk_nso, hc_nso⟩ := (fun_of F0nso).ex
  subst ef_nso
  have Fnso := fun_of (st := sNewSource) F0nso
  have bnso := Fnso.binds (ps := ["self", "process"]) fun _ _ _ _ _ _ us hl => by
    obtain ⟨_, _, rfl⟩ := Ln2 hl
    rfl
  obtain ⟨oc_nse, od_nse, kV_nse, dc_nse, pm_nse, an_nse, cd_nse, ct_nse, sl_nse, ef_nse, lk_nse, hc_nse⟩ := (fun_of F0nse).ex
  subst ef_nse
  have Fnse := fun_of (st := sNewSet) F0nse
  have bnse := Fnse.binds (ps := ["self", "process"]) fun _ _ _ _ _ _ us hl => by
    obtain ⟨_, _, rfl⟩ := Ln2 hl
    rfl
  obtain ⟨oc_rdy, od_rdy, kV_rdy, dc_rdy, pm_rdy, an_rdy, cd_rdy, ct_rdy, sl_rdy, ef_rdy, lk_rdy, hc_rdy⟩ := (fun_of F0rdy).ex
  subst ef_rdy
  have Frdy := fun_of (st := sIsReady) F0rdy
  have brdy := Frdy.binds (ps := ["self", "source"]) fun _ _ _ _ _ _ us hl => by
    obtain ⟨_, _, rfl⟩ := Ln2 hl
    rfl
  obtain ⟨oc_etg, od_etg, kV_etg, dc_etg, pm_etg, an_etg, cd_etg, ct_etg, sl_etg, ef_etg, lk_etg, hc_etg⟩ := (fun_of F0etg).ex
  subst ef_etg
  have Fetg := fun_of (st := sEndThing) F0etg
  have betg := Fetg.binds (ps := ["self", "thing"]) fun _ _ _ _ _ _ us hl => by
    obtain ⟨_, _, rfl⟩ := Ln2 hl
    rfl
  have Fadd := F0add
  obtain ⟨oc_fre, od_fre, kV_fre, dc_fre, pm_fre, an_fre, cd_fre, ct_fre, sl_fre, ef_fre, lk_fre, hc_fre⟩ := (fun_of F0fre).ex
  subst ef_fre
  have Ffre := fun_of (st := sFree) F0fre
  have bfre := Ffre.binds (ps := ["self", "process", "number"]) fun _ _ _ _ _ _ us hl => by
    obtain ⟨_, _, _, rfl⟩ := Ln3 hl
    rfl
  obtain ⟨oc_clo, od_clo, kV_clo, dc_clo, pm_clo, an_clo, cd_clo, ct_clo, sl_clo, ef_clo, lk_clo, hc_clo⟩ := (fun_of F0clo).ex
  subst ef_clo
  have Fclo := fun_of (st := sClose) F0clo
  have bclo := Fclo.binds (ps := ["self", "process", "number"]) fun _ _ _ _ _ _ us hl => by
    obtain ⟨_, _, _, rfl⟩ := Ln3 hl
    rfl
  have Fcpy := F0cpy
  obtain ⟨dscpy, vcpy, bcpy⟩ := Fcpy.binds1 (ps := ["self", "process", "number", "to"]) 3 0 (by intro z; cases z) rfl fun _ _ _ _ _ _ _ us its hu hi => by
    obtain ⟨_, _, _, rfl⟩ := Ln3 hu
    obtain ⟨_, rfl⟩ := Ln1 hi
    exact ⟨_, rfl, rfl⟩
  have Bcpy : Binds K fd_cpy (["self", "process", "number", "to"] : List Str) [] := by
    obtain ⟨ds, v, b⟩ := Fcpy.binds1 (ps := ["self", "process", "number", "to"]) 4 1 (by intro z; cases z) rfl fun _ _ _ _ _ _ _ us its hu hi => by
      obtain ⟨_, _, _, _, rfl⟩ := Ln4 hu
      obtain ⟨_, rfl⟩ := Ln1 hi
      exact ⟨_, rfl, rfl⟩
    cases v
    exact b
  obtain ⟨oc_frp, od_frp, kV_frp, dc_frp, pm_frp, an_frp, cd_frp, ct_frp, sl_frp, ef_frp, lk_frp, hc_frp⟩ := (fun_of F0frp).ex
  subst ef_frp
  have Ffrp := fun_of (st := sFreeProc) F0frp
  have bfrp := Ffrp.binds (ps := ["self"]) fun _ _ _ _ _ _ us hl => by
    obtain ⟨_, rfl⟩ := Ln1 hl
    rfl
  obtain ⟨oc_frk, od_frk, kV_frk, dc_frk, pm_frk, an_frk, cd_frk, ct_frk, sl_frk, ef_frk, lk_frk, hc_frk⟩ := (fun_of F0frk).ex
  subst ef_frk
  have Ffrk := fun_of (st := sFork) F0frk
  have bfrk := Ffrk.binds (ps := ["self", "process"]) fun _ _ _ _ _ _ us hl => by
    obtain ⟨_, _, rfl⟩ := Ln2 hl
    rfl
  obtain ⟨oc_tng, od_tng, kV_tng, dc_tng, pm_tng, an_tng, cd_tng, ct_tng, sl_tng, ef_tng, lk_tng, hc_tng⟩ := (fun_of F0tng).ex
  subst ef_tng
  have Ftng := fun_of (st := sThings) F0tng
  have btng := Ftng.binds (ps := ["self"]) fun _ _ _ _ _ _ us hl => by
    obtain ⟨_, rfl⟩ := Ln1 hl
    rfl
  obtain ⟨oc_nof, od_nof, kV_nof, dc_nof, pm_nof, an_nof, cd_nof, ct_nof, sl_nof, ef_nof, lk_nof, hc_nof⟩ := (fun_of F0nof).ex
  subst ef_nof
  have Fnof := fun_of (st := sNumbersOf) F0nof
  have bnof := Fnof.binds (ps := ["self", "thing"]) fun _ _ _ _ _ _ us hl => by
    obtain ⟨_, _, rfl⟩ := Ln2 hl
    rfl
  obtain ⟨oc_nam, od_nam, kV_nam, dc_nam, pm_nam, an_nam, cd_nam, ct_nam, sl_nam, ef_nam, lk_nam, hc_nam⟩ := (fun_of F0nam).ex
  subst ef_nam
  have Fnam := fun_of (st := sNameOf) F0nam
  have bnam := Fnam.binds (ps := ["self", "thing"]) fun _ _ _ _ _ _ us hl => by
    obtain ⟨_, _, rfl⟩ := Ln2 hl
    rfl
  obtain ⟨oc_reg, od_reg, kV_reg, dc_reg, pm_reg, an_reg, cd_reg, ct_reg, sl_reg, ef_reg, lk_reg, hc_reg⟩ := (fun_of F0reg).ex
  subst ef_reg
  have Freg := fun_of (st := sRegistrations) F0reg
  have breg := Freg.binds (ps := ["self"]) fun _ _ _ _ _ _ us hl => by
    obtain ⟨_, rfl⟩ := Ln1 hl
    rfl
  obtain ⟨mvkbsi, kbsi⟩ := Fsi.kbinds0 (ps := ["self", "processes", "numbers"]) 1 ["processes", "numbers"] [] (fun us mv ws => us ++ ws) (by intro z; cases z) (fun q hq => absurd hq List.not_mem_nil) (fun a b c => a.append c) fun _ _ _ _ _ _ us mv ws hu hm hw => by
    obtain ⟨_, rfl⟩ := Ln1 hu
    obtain ⟨rfl⟩ := Ln0 hm
    obtain ⟨_, _, rfl⟩ := Ln2 hw
    exact rfl
  obtain ⟨mvkbadd, kbadd⟩ := Fadd.kbinds0 (ps := ["self", "process", "set_number", "number", "label", "word"]) 5 ["word"] [] (fun us mv ws => us ++ ws) (by intro z; cases z) (fun q hq => absurd hq List.not_mem_nil) (fun a b c => a.append c) fun _ _ _ _ _ _ us mv ws hu hm hw => by
    obtain ⟨_, _, _, _, _, rfl⟩ := Ln5 hu
    obtain ⟨rfl⟩ := Ln0 hm
    obtain ⟨_, rfl⟩ := Ln1 hw
    exact rfl
  have DT : DrawTxt mg := ⟨(PySem.W.mg_none_of X G z_len), (PySem.W.mg_none_of X G z_enumerate), (PySem.W.mg_none_of X G z_int), (PySem.W.mg_none_of X G z_abs)⟩
  have tup : ∀ {q : Addr} {dd : Option Addr} {its : Array Value} {n : Nat} {sl : Array (Option Value)} {xs : List Str}, K.lookup q = some ⟨.type "tuple", dd, .seq its n, sl⟩ → its.size ≤ sizeLine → Vals (xs.map V.str) its.toList → ∀ H, SqT K H q (xs.map V.str) := fun e hz hv H => .inr ⟨_, _, _, e, rfl, rfl, hz, hv⟩
  have CT : ChkTxt K mg := ⟨(PySem.W.mg_none_of X G z_isinstance), (PySem.W.mg_none_of X G z_int), (PySem.W.mg_none_of X G z_bool), ⟨tMC, PySem.W.mg_of X G gMC⟩, ⟨tML, PySem.W.mg_of X G gML⟩, ⟨wW, PySem.W.mg_of X G wA, tup (xs := wordsL) LW0 (by show 3 ≤ sizeLine; decide) (.cons ⟨_, rfl⟩ (.cons ⟨_, rfl⟩ (.cons ⟨_, rfl⟩ .nil)))⟩⟩
  have YT : SysTxt mg := ⟨(PySem.W.mg_none_of X G z_enumerate), (PySem.W.mg_none_of X G z_list), (PySem.W.mg_none_of X G z_min)⟩
  have RT : RegTxt mg := ⟨(PySem.W.mg_none_of X G z_sorted), (PySem.W.mg_none_of X G z_list), (PySem.W.mg_none_of X G z_enumerate)⟩
  have HT : ReachTx mg := ⟨(PySem.W.mg_none_of X G z_isinstance), (PySem.W.mg_none_of X G z_tuple), (PySem.W.mg_none_of X G z_len), (PySem.W.mg_none_of X G z_any)⟩
  have LX : LawTx mg := ⟨(PySem.W.mg_none_of X G z_range), (PySem.W.mg_none_of X G z_max), (PySem.W.mg_none_of X G z_min), (PySem.W.mg_none_of X G z_len), (PySem.W.mg_none_of X G z_list), (PySem.W.mg_none_of X G z_dict)⟩
  have TS : ClsF K CS sysF := ⟨⟨pgS, hdS, poS, saS⟩, fun f hf => by
    simp only [sysF, List.mem_cons, List.not_mem_nil, or_false] at hf
    rcases hf with rfl | rfl | rfl | rfl | rfl | rfl
    · exact noS0
    · exact noS1
    · exact noS2
    · exact noS3
    · exact noS4
    · exact noS5⟩
  have TW : ClsF K CW wsF := ⟨⟨pgW, hdW, poW, saW⟩, fun f hf => by
    simp only [wsF, List.mem_cons, List.not_mem_nil, or_false] at hf
    rcases hf with rfl | rfl
    · exact noW0
    · exact noW1⟩
  have TR : ClsF K CR regF := ⟨⟨pgR, hdR, poR, saR⟩, fun f hf => by
    simp only [regF, List.mem_cons, List.not_mem_nil, or_false] at hf
    rcases hf with rfl | rfl | rfl | rfl
    · exact noR0
    · exact noR1
    · exact noR2
    · exact noR3⟩
  have LT : LimTxt K mg CS := ⟨⟨tLP, PySem.W.mg_of X G gLP⟩, ⟨tLN, PySem.W.mg_of X G gLN⟩, ⟨_, gMP, ⟨_, rfl⟩, sMP, by decide⟩, ⟨_, gMN, ⟨_, rfl⟩, sMN, by decide⟩⟩
  have KS : Mk K CS f_si := ⟨mkS, asi, isi, kcS⟩
  have gmS := PySem.W.mg_of X G gCS
  have KW : Mk K CW f_wi := ⟨mkW, awi, iwi, kcW⟩
  have gmW := PySem.W.mg_of X G gCW
  have KR : Mk K CR f_ri := ⟨mkR, ari, iri, kcR⟩
  have gmR := PySem.W.mg_of X G gCR
  have EPr : NoProcessE K mg CPr f_xPr _ := { gC := PySem.W.mg_of X G gCPr, ox := ⟨⟨nmPr, qPr, NPr, bsPr, snPr, subPr, abPr, colPr, ddPr, maPr, mbPr, mcPr, mdPr, mePr, xLPr⟩, xsaPr, xeCPr, xtCPr, xkCPr⟩, noN := xnbPr0, iC := axPr, tI := xtIPr, bI := bxPr, te := xtePr, xf := ⟨xgaPr, xggPr, xeCPr, xhCPr⟩ }
  have EOp : NotOpenE K mg COp f_xOp _ := { gC := PySem.W.mg_of X G gCOp, ox := ⟨⟨nmOp, qOp, NOp, bsOp, snOp, subOp, abOp, colOp, ddOp, maOp, mbOp, mcOp, mdOp, meOp, xLOp⟩, xsaOp, xeCOp, xtCOp, xkCOp⟩, noN := xnbOp0, iC := axOp, tI := xtIOp, bI := bxOp, te := xteOp, xf := ⟨xgaOp, xggOp, xeCOp, xhCOp⟩ }
  have ENu : NoNumberE K mg CNu f_xNu _ := { gC := PySem.W.mg_of X G gCNu, ox := ⟨⟨nmNu, qNu, NNu, bsNu, snNu, subNu, abNu, colNu, ddNu, maNu, mbNu, mcNu, mdNu, meNu, xLNu⟩, xsaNu, xeCNu, xtCNu, xkCNu⟩, noN := xnbNu0, iC := axNu, tI := xtINu, bI := bxNu, te := xteNu, xf := ⟨xgaNu, xggNu, xeCNu, xhCNu⟩ }
  have ENs : NotASourceE K mg CNs f_xNs _ := { gC := PySem.W.mg_of X G gCNs, ox := ⟨⟨nmNs, qNs, NNs, bsNs, snNs, subNs, abNs, colNs, ddNs, maNs, mbNs, mcNs, mdNs, meNs, xLNs⟩, xsaNs, xeCNs, xtCNs, xkCNs⟩, noN := xnbNs0, iC := axNs, tI := xtINs, bI := bxNs, te := xteNs, xf := ⟨xgaNs, xggNs, xeCNs, xhCNs⟩ }
  have ENt : NotASetE K mg CNt f_xNt _ := { gC := PySem.W.mg_of X G gCNt, ox := ⟨⟨nmNt, qNt, NNt, bsNt, snNt, subNt, abNt, colNt, ddNt, maNt, mbNt, mcNt, mdNt, meNt, xLNt⟩, xsaNt, xeCNt, xtCNt, xkCNt⟩, noN := xnbNt0, iC := axNt, tI := xtINt, bI := bxNt, te := xteNt, xf := ⟨xgaNt, xggNt, xeCNt, xhCNt⟩ }
  have EFu : FullE K mg CFu f_xFu _ := { gC := PySem.W.mg_of X G gCFu, ox := ⟨⟨nmFu, qFu, NFu, bsFu, snFu, subFu, abFu, colFu, ddFu, maFu, mbFu, mcFu, mdFu, meFu, xLFu⟩, xsaFu, xeCFu, xtCFu, xkCFu⟩, noN := xnbFu0, iC := axFu, tI := xtIFu, bI := bxFu, te := xteFu, xf := ⟨xgaFu, xggFu, xeCFu, xhCFu⟩ }
  have ENo : NoRoomE K mg CNo f_xNo _ := { gC := PySem.W.mg_of X G gCNo, ox := ⟨⟨nmNo, qNo, NNo, bsNo, snNo, subNo, abNo, colNo, ddNo, maNo, mbNo, mcNo, mdNo, meNo, xLNo⟩, xsaNo, xeCNo, xtCNo, xkCNo⟩, iC := axNo, tI := xtINo, bI := bxNo, te := xteNo, xf := ⟨xgaNo, xggNo, xeCNo, xhCNo⟩ }
  have ECo : BadCountE K mg CCo f_xCo _ := { gC := PySem.W.mg_of X G gCCo, ox := ⟨⟨nmCo, qCo, NCo, bsCo, snCo, subCo, abCo, colCo, ddCo, maCo, mbCo, mcCo, mdCo, meCo, xLCo⟩, xsaCo, xeCCo, xtCCo, xkCCo⟩, noN := xnbCo0, iC := axCo, tI := xtICo, bI := bxCo, te := xteCo, xf := ⟨xgaCo, xggCo, xeCCo, xhCCo⟩ }
  have ELa : BadLabelE K mg CLa f_xLa _ := { gC := PySem.W.mg_of X G gCLa, ox := ⟨⟨nmLa, qLa, NLa, bsLa, snLa, subLa, abLa, colLa, ddLa, maLa, mbLa, mcLa, mdLa, meLa, xLLa⟩, xsaLa, xeCLa, xtCLa, xkCLa⟩, noN := xnbLa0, iC := axLa, tI := xtILa, bI := bxLa, te := xteLa, xf := ⟨xgaLa, xggLa, xeCLa, xhCLa⟩ }
  have EWo : BadWordE K mg CWo f_xWo _ := { gC := PySem.W.mg_of X G gCWo, ox := ⟨⟨nmWo, qWo, NWo, bsWo, snWo, subWo, abWo, colWo, ddWo, maWo, mbWo, mcWo, mdWo, meWo, xLWo⟩, xsaWo, xeCWo, xtCWo, xkCWo⟩, noN := xnbWo0, iC := axWo, tI := xtIWo, bI := bxWo, te := xteWo, xf := ⟨xgaWo, xggWo, xeCWo, xhCWo⟩ }
  have ERg : RegisteredE K mg CRg f_xRg _ := { gC := PySem.W.mg_of X G gCRg, ox := ⟨⟨nmRg, qRg, NRg, bsRg, snRg, subRg, abRg, colRg, ddRg, maRg, mbRg, mcRg, mdRg, meRg, xLRg⟩, xsaRg, xeCRg, xtCRg, xkCRg⟩, noN := xnbRg0, iC := axRg, tI := xtIRg, bI := bxRg, te := xteRg, xf := ⟨xgaRg, xggRg, xeCRg, xhCRg⟩ }
  have ETa : TakenE K mg CTa f_xTa _ := { gC := PySem.W.mg_of X G gCTa, ox := ⟨⟨nmTa, qTa, NTa, bsTa, snTa, subTa, abTa, colTa, ddTa, maTa, mbTa, mcTa, mdTa, meTa, xLTa⟩, xsaTa, xeCTa, xtCTa, xkCTa⟩, noN := xnbTa0, iC := axTa, tI := xtITa, bI := bxTa, te := xteTa, xf := ⟨xgaTa, xggTa, xeCTa, xhCTa⟩ }
  refine ⟨PySem.W.fnOf "law" "law" (defArgs sLaw) (defBody sLaw) (defScope sLaw) .none kV_law dc_law pm_law an_law cd_law ct_law, fun s u => .of_eq rfl, fun base KB _ => ?_⟩
  have GxPr := okNoProcessInit (P := P) (w := w) (K := K) (mg := mg) (base := base) FxPr (PySem.W.mg_none_of X G z_LookupError) xvVPr EPr
  have GxOp := okNotOpenInit (P := P) (w := w) (K := K) (mg := mg) (base := base) FxOp (PySem.W.mg_none_of X G z_LookupError) xvVOp EOp
  have GxNu := okNoNumberInit (P := P) (w := w) (K := K) (mg := mg) (base := base) FxNu (PySem.W.mg_none_of X G z_LookupError) xvVNu ENu
  have GxNs := okNotASourceInit (P := P) (w := w) (K := K) (mg := mg) (base := base) FxNs (PySem.W.mg_none_of X G z_TypeError) xvVNs ENs
  have GxNt := okNotASetInit (P := P) (w := w) (K := K) (mg := mg) (base := base) FxNt (PySem.W.mg_none_of X G z_TypeError) xvVNt ENt
  have GxFu := okFullInit (P := P) (w := w) (K := K) (mg := mg) (base := base) FxFu (PySem.W.mg_none_of X G z_OverflowError) xvVFu EFu
  have GxNo := okNoRoomInit (P := P) (w := w) (K := K) (mg := mg) (base := base) FxNo (PySem.W.mg_none_of X G z_OverflowError) xvVNo ENo
  have GxCo := okBadCountInit (P := P) (w := w) (K := K) (mg := mg) (base := base) FxCo (PySem.W.mg_none_of X G z_ValueError) xvVCo ECo
  have GxLa := okBadLabelInit (P := P) (w := w) (K := K) (mg := mg) (base := base) FxLa (PySem.W.mg_none_of X G z_ValueError) xvVLa ELa
  have GxWo := okBadWordInit (P := P) (w := w) (K := K) (mg := mg) (base := base) FxWo (PySem.W.mg_none_of X G z_ValueError) xvVWo EWo
  have GxRg := okRegisteredInit (P := P) (w := w) (K := K) (mg := mg) (base := base) FxRg (PySem.W.mg_none_of X G z_RuntimeError) xvVRg ERg
  have GxTa := okTakenInit (P := P) (w := w) (K := K) (mg := mg) (base := base) FxTa (PySem.W.mg_none_of X G z_RuntimeError) xvVTa ETa
  have RX : ErTx P w K mg base ⟨CPr, COp, CNu, CNs, CNt, CFu, CNo, CCo, CLa, CWo, CRg, CTa⟩ := ⟨⟨⟨_, _, EPr, GxPr⟩⟩, ⟨⟨_, _, EOp, GxOp⟩⟩, ⟨⟨_, _, ENu, GxNu⟩⟩, ⟨⟨_, _, ENs, GxNs⟩⟩, ⟨⟨_, _, ENt, GxNt⟩⟩, ⟨⟨_, _, EFu, GxFu⟩⟩, ⟨_, _, ENo, GxNo⟩, ⟨⟨_, _, ECo, GxCo⟩⟩, ⟨⟨_, _, ELa, GxLa⟩⟩, ⟨⟨_, _, EWo, GxWo⟩⟩, ⟨⟨_, _, ERg, GxRg⟩⟩, ⟨⟨_, _, ETa, GxTa⟩⟩⟩
  have Gint := okIsInteger (P := P) (w := w) (K := K) (mg := mg) (base := base) Fint CT
  have GintX := okIntX (P := P) (w := w) (K := K) (mg := mg) (base := base) Fint CT
  have Gbet := okIsBetween (P := P) (w := w) (K := K) (mg := mg) (base := base) Fbet Gint kint mint bint
  have GbetX := okBetX (P := P) (w := w) (K := K) (mg := mg) (base := base) Fbet ⟨GintX, kint, mint, bint⟩
  have Glab := okIsLabel (P := P) (w := w) (K := K) (mg := mg) (base := base) Flab CT Gbet kbet mbet bbet
  have GlabX := okLabelX (P := P) (w := w) (K := K) (mg := mg) (base := base) Flab CT ⟨GbetX, kbet, mbet, bbet⟩
  have Gwrd := okIsWord (P := P) (w := w) (K := K) (mg := mg) (base := base) Fwrd CT
  have GwrdX := okWordX (P := P) (w := w) (K := K) (mg := mg) (base := base) Fwrd CT
  have Gbag := okBag (P := P) (w := w) (K := K) (mg := mg) (base := base) Fbag DT
  have Gtake := okTake (P := P) (w := w) (K := K) (mg := mg) (base := base) Ftake DT
  have Gof := okOf (P := P) (w := w) (K := K) (mg := mg) (base := base) Fof DT Ftake mtake btake
  have Gri := okRegInit (P := P) (w := w) (K := K) (mg := mg) (base := base) Fri TR
  have Gwi := okWsInit (P := P) (w := w) (K := K) (mg := mg) (base := base) Fwi TW
  have Gapp := okAppend (P := P) (w := w) (K := K) (mg := mg) (base := base) Fapp TW
  have Gput := okPut (P := P) (w := w) (K := K) (mg := mg) (base := base) Fput TW Gapp ⟨aapp, iapp, kapp⟩ bapp
  have Glof := okLabelOf (P := P) (w := w) (K := K) (mg := mg) (base := base) Flof TW TR
  have Gdrp := okDrop (P := P) (w := w) (K := K) (mg := mg) (base := base) Fdrp TW
  have Gdso := okDropSource (P := P) (w := w) (K := K) (mg := mg) (base := base) Fdso TW TR ⟨Gdrp, ⟨adrp, idrp, kdrp⟩, bdrp⟩
  have Gsi := okSysInit (P := P) (w := w) (K := K) (mg := mg) (base := base) (C := ⟨CS, CW, CR⟩) Fsi TS LT ⟨Gbet, kbet, mbet, bbet⟩
  have Gcon := okContains (P := P) (w := w) (K := K) (mg := mg) (base := base) (C := ⟨CS, CW, CR⟩) Fcon TS ⟨Gint, kint, mint, bint⟩
  have GconX := okContX (P := P) (w := w) (K := K) (mg := mg) (base := base) (C := ⟨CS, CW, CR⟩) Fcon TS ⟨GintX, kint, mint, bint⟩
  have Gtof := okTableOf (P := P) (w := w) (K := K) (mg := mg) (base := base) (C := ⟨CS, CW, CR⟩) Ftof TS ⟨Gcon, ⟨acon, icon, kcon⟩, bcon⟩
  have GtofX := okTabX (P := P) (w := w) (K := K) (mg := mg) (base := base) (C := ⟨CS, CW, CR⟩) (D := ⟨CPr, COp, CNu, CNs, CNt, CFu, CNo, CCo, CLa, CWo, CRg, CTa⟩) Ftof TS RX ⟨GconX, ⟨acon, icon, kcon⟩, bcon⟩
  have Gitn := okIsTabNum (P := P) (w := w) (K := K) (mg := mg) (base := base) (C := ⟨CS, CW, CR⟩) Fitn TS ⟨Gbet, kbet, mbet, bbet⟩
  have GitnX := okNumX (P := P) (w := w) (K := K) (mg := mg) (base := base) (C := ⟨CS, CW, CR⟩) Fitn TS ⟨GbetX, kbet, mbet, bbet⟩
  have Gtha := okThingAt (P := P) (w := w) (K := K) (mg := mg) (base := base) (C := ⟨CS, CW, CR⟩) Ftha TS ⟨Gtof, ⟨atof, itof, ktof⟩, btof⟩ ⟨Gitn, ⟨aitn, iitn, kitn⟩, bitn⟩
  have GthaX := okThingX (P := P) (w := w) (K := K) (mg := mg) (base := base) (C := ⟨CS, CW, CR⟩) (D := ⟨CPr, COp, CNu, CNs, CNt, CFu, CNo, CCo, CLa, CWo, CRg, CTa⟩) Ftha TS RX ⟨GtofX, ⟨atof, itof, ktof⟩, btof⟩ ⟨GitnX, ⟨aitn, iitn, kitn⟩, bitn⟩
  have Gsra := okSourceAt (P := P) (w := w) (K := K) (mg := mg) (base := base) (C := ⟨CS, CW, CR⟩) Fsra TS ⟨Gtha, ⟨atha, itha, ktha⟩, btha⟩
  have GsraX := okSourceX (P := P) (w := w) (K := K) (mg := mg) (base := base) (C := ⟨CS, CW, CR⟩) (D := ⟨CPr, COp, CNu, CNs, CNt, CFu, CNo, CCo, CLa, CWo, CRg, CTa⟩) Fsra TS RX ⟨GthaX, ⟨atha, itha, ktha⟩, btha⟩
  have Gsta := okSetAt (P := P) (w := w) (K := K) (mg := mg) (base := base) (C := ⟨CS, CW, CR⟩) Fsta TS ⟨Gtha, ⟨atha, itha, ktha⟩, btha⟩
  have GstaX := okSetX (P := P) (w := w) (K := K) (mg := mg) (base := base) (C := ⟨CS, CW, CR⟩) (D := ⟨CPr, COp, CNu, CNs, CNt, CFu, CNo, CCo, CLa, CWo, CRg, CTa⟩) Fsta TS RX ⟨GthaX, ⟨atha, itha, ktha⟩, btha⟩
  have GfrnX := okFreeX (P := P) (w := w) (K := K) (mg := mg) (base := base) (C := ⟨CS, CW, CR⟩) (D := ⟨CPr, COp, CNu, CNs, CNt, CFu, CNo, CCo, CLa, CWo, CRg, CTa⟩) Ffrn YT TS RX ⟨GtofX, ⟨atof, itof, ktof⟩, btof⟩
  have GnthX := okNewThingX (P := P) (w := w) (K := K) (mg := mg) (base := base) (C := ⟨CS, CW, CR⟩) (D := ⟨CPr, COp, CNu, CNs, CNt, CFu, CNo, CCo, CLa, CWo, CRg, CTa⟩) Fnth TS ⟨GfrnX, ⟨afrn, ifrn, kfrn⟩, bfrn⟩
  have GnsoX := okNewSourceX (P := P) (w := w) (K := K) (mg := mg) (base := base) (C := ⟨CS, CW, CR⟩) (D := ⟨CPr, COp, CNu, CNs, CNt, CFu, CNo, CCo, CLa, CWo, CRg, CTa⟩) Fnso TS ⟨GnthX, ⟨anth, inth, knth⟩, bnth⟩
  have GnseX := okNewSetX (P := P) (w := w) (K := K) (mg := mg) (base := base) (C := ⟨CS, CW, CR⟩) (D := ⟨CPr, COp, CNu, CNs, CNt, CFu, CNo, CCo, CLa, CWo, CRg, CTa⟩) Fnse TS ⟨GnthX, ⟨anth, inth, knth⟩, bnth⟩ gmW KW Gwi bwi
  have Grdy := okIsReady (P := P) (w := w) (K := K) (mg := mg) (base := base) (C := ⟨CS, CW, CR⟩) Frdy TS
  have Getg := okEndThing (P := P) (w := w) (K := K) (mg := mg) (base := base) (C := ⟨CS, CW, CR⟩) Fetg TS TW.cl ⟨Gdso, ⟨adso, idso, kdso⟩, bdso⟩
  have Gfre := okFree (P := P) (w := w) (K := K) (mg := mg) (base := base) (C := ⟨CS, CW, CR⟩) Ffre (PySem.W.mg_none_of X G z_any) TS ⟨Getg, ⟨aetg, ietg, ketg⟩, betg⟩
  have GcloX := okCloseX (P := P) (w := w) (K := K) (mg := mg) (base := base) (C := ⟨CS, CW, CR⟩) (D := ⟨CPr, COp, CNu, CNs, CNt, CFu, CNo, CCo, CLa, CWo, CRg, CTa⟩) Fclo TS ⟨GthaX, ⟨atha, itha, ktha⟩, btha⟩ ⟨Gfre, ⟨afre, ifre, kfre⟩, bfre⟩
  have GcpyX := okCopyX (P := P) (w := w) (K := K) (mg := mg) (base := base) (C := ⟨CS, CW, CR⟩) (D := ⟨CPr, COp, CNu, CNs, CNt, CFu, CNo, CCo, CLa, CWo, CRg, CTa⟩) Fcpy TS RX ⟨GthaX, ⟨atha, itha, ktha⟩, btha⟩ ⟨GitnX, ⟨aitn, iitn, kitn⟩, bitn⟩ ⟨GfrnX, ⟨afrn, ifrn, kfrn⟩, bfrn⟩ ⟨Gfre, ⟨afre, ifre, kfre⟩, bfre⟩
  have Gfrp := okFreeProc (P := P) (w := w) (K := K) (mg := mg) (base := base) (C := ⟨CS, CW, CR⟩) Ffrp (PySem.W.mg_none_of X G z_range) TS
  have GfrkX := okForkX (P := P) (w := w) (K := K) (mg := mg) (base := base) (C := ⟨CS, CW, CR⟩) (D := ⟨CPr, COp, CNu, CNs, CNt, CFu, CNo, CCo, CLa, CWo, CRg, CTa⟩) Ffrk YT (PySem.W.mg_none_of X G z_list) TS RX ⟨GtofX, ⟨atof, itof, ktof⟩, btof⟩ ⟨Gfrp, ⟨afrp, ifrp, kfrp⟩, bfrp⟩
  have Gadd0 := okAdd (P := P) (w := w) (K := K) (mg := mg) (base := base) (C := ⟨CS, CW, CR⟩) Fadd TS TW ⟨Gsta, ⟨asta, ista, ksta⟩, bsta⟩ ⟨Gsra, ⟨asra, isra, ksra⟩, bsra⟩ ⟨Glab, klab, mlab, blab⟩ ⟨Gwrd, kwrd, mwrd, bwrd⟩ ⟨Glof, ⟨alof, ilof, klof⟩, blof⟩ gmR KR Gri bri ⟨Grdy, ⟨ardy, irdy, krdy⟩, brdy⟩ ⟨Gput, ⟨aput, iput, kput⟩, bput⟩
  have GaddE := okAddE (P := P) (w := w) (K := K) (mg := mg) (base := base) (C := ⟨CS, CW, CR⟩) (D := ⟨CPr, COp, CNu, CNs, CNt, CFu, CNo, CCo, CLa, CWo, CRg, CTa⟩) Fadd TS TW RX ⟨GstaX, ⟨asta, ista, ksta⟩, bsta⟩ ⟨GsraX, ⟨asra, isra, ksra⟩, bsra⟩ ⟨GlabX, klab, mlab, blab⟩ ⟨GwrdX, kwrd, mwrd, bwrd⟩ ⟨Glof, ⟨alof, ilof, klof⟩, blof⟩
  have GaddX := Wn.okAddX (C := ⟨CS, CW, CR⟩) (D := ⟨CPr, COp, CNu, CNs, CNt, CFu, CNo, CCo, CLa, CWo, CRg, CTa⟩) Gadd0 GaddE
  have Gtng := okThings (P := P) (w := w) (K := K) (mg := mg) (base := base) (C := ⟨CS, CW, CR⟩) Ftng RT TS
  have Gnof := okNumbersOf (P := P) (w := w) (K := K) (mg := mg) (base := base) (C := ⟨CS, CW, CR⟩) Fnof RT TS
  have Gnam := okNameOf (P := P) (w := w) (K := K) (mg := mg) (base := base) (C := ⟨CS, CW, CR⟩) Fnam TS ⟨Gnof, ⟨anof, inof, knof⟩, bnof⟩
  have Greg := okRegsG (P := P) (w := w) (K := K) (mg := mg) (base := base) (C := ⟨CS, CW, CR⟩) Freg TS TW TR ⟨Gtng, ⟨atng, itng, ktng⟩, btng⟩ ⟨Gnam, ⟨anam, inam, knam⟩, bnam⟩
  have Gsnm := okSetNamed (P := P) (w := w) (K := K) (mg := mg) (base := base) (C := ⟨CS, CW, CR⟩) Fsnm HT TS ⟨Gcon, ⟨acon, icon, kcon⟩, bcon⟩ ⟨Gitn, ⟨aitn, iitn, kitn⟩, bitn⟩ ⟨Gnam, ⟨anam, inam, knam⟩, bnam⟩
  have Grnm := okRegNamed (P := P) (w := w) (K := K) (mg := mg) (base := base) (C := ⟨CS, CW, CR⟩) Frnm TS TW ⟨Gsnm, ksnm, msnm, bsnm⟩ ⟨Gint, kint, mint, bint⟩
  have Ghld := okHeld (P := P) (w := w) (K := K) (mg := mg) (base := base) (C := ⟨CS, CW, CR⟩) Fhld (PySem.W.mg_none_of X G z_any) TS
  have Gisr := okIsReached (P := P) (w := w) (K := K) (mg := mg) (base := base) (C := ⟨CS, CW, CR⟩) Fisr (PySem.W.mg_none_of X G z_any) TS TR ⟨Grnm, krnm, mrnm, brnm⟩
  have Giss := okIsSealed (P := P) (w := w) (K := K) (mg := mg) (base := base) (C := ⟨CS, CW, CR⟩) Fiss TS TR ⟨Grnm, krnm, mrnm, brnm⟩ ⟨Ghld, khld, mhld, bhld⟩
  have MS : Ms P w K mg base ⟨CS, CW, CR⟩ ⟨CPr, COp, CNu, CNs, CNt, CFu, CNo, CCo, CLa, CWo, CRg, CTa⟩ := ⟨TS, ⟨_, _, GnsoX, ⟨anso, inso, knso⟩, bnso⟩, ⟨_, _, GnseX, ⟨anse, inse, knse⟩, bnse⟩, ⟨_, _, _, GaddX, ⟨aadd, iadd, kadd⟩, kbadd⟩, ⟨_, _, GcpyX, ⟨acpy, icpy, kcpy⟩, Bcpy⟩, ⟨_, _, GcloX, ⟨aclo, iclo, kclo⟩, bclo⟩, ⟨_, _, GfrkX, ⟨afrk, ifrk, kfrk⟩, bfrk⟩⟩
  have Gdue := okDue (P := P) (w := w) (K := K) (mg := mg) (base := base) Fdue LX
  have Gfnd := okFound (P := P) (w := w) (K := K) (mg := mg) (base := base) (C := ⟨CS, CW, CR⟩) Ffnd TS ⟨Greg, ⟨areg, ireg, kreg⟩, breg⟩ ⟨Gisr, kisr, misr, bisr⟩ ⟨Giss, kiss, miss, biss⟩
  have Grgt := okRight (P := P) (w := w) (K := K) (mg := mg) (base := base) (C := ⟨CS, CW, CR⟩) Frgt ⟨Gdue, kdue, mdue, bdue⟩ ⟨Gfnd, kfnd, mfnd, bfnd⟩
  exact okLaw (C := ⟨CS, CW, CR⟩) (D := ⟨CPr, COp, CNu, CNs, CNt, CFu, CNo, CCo, CLa, CWo, CRg, CTa⟩) Flaw LX MS gmS KS Gsi kbsi ⟨Gbag, kbag, mbag, bbag⟩ ⟨Gtake, ktake, mtake, btake⟩ ⟨Gof, kof, mof, bof⟩ ⟨Grgt, krgt, mrgt, brgt⟩
theorem facts {P : Program} {w : World} {K : PySem.W.Frag} {h : Heap} {mg : Str → Option Value} {fa : Addr} (X : K.In h) (G : h.Ns mainGlobals mg) (hfa : mg "law" = some (.ref fa)) (c : SaysB ckL fnL fxL K) :
    ∃ fd : FuncData, (∀ (s : Shared) (u : Value), BindsTo s fd ⟨[u], []⟩ [("_law_script", u)]) ∧ ∀ base : Heap, K.In base → base.Ns mainGlobals mg → FnOk P w K mg base CX0 9 fa fd ["_law_script"] (spLaw K) := by
  have gCS : PySem.W.nsIn K mainGlobals "System" = some (some (.ref (He.ga K "System"))) := of_decide_eq_true (SaysB.ck c 0 (f := fun K => decide (PySem.W.nsIn K mainGlobals "System" = some (some (.ref (He.ga K "System"))))) rfl)
  have pgS : PySem.W.plainGet K (He.ga K "System") Str.empty = true := (SaysB.ck c 1 (f := fun K => PySem.W.plainGet K (He.ga K "System") Str.empty) rfl)
  have hdS : PySem.W.hasDictIn K (He.ga K "System") = true := (SaysB.ck c 2 (f := fun K => PySem.W.hasDictIn K (He.ga K "System")) rfl)
  have poS : PySem.W.plainOver K (He.ga K "System") = true := (SaysB.ck c 3 (f := fun K => PySem.W.plainOver K (He.ga K "System")) rfl)
  have saS : PySem.W.findIn K (.ref (He.ga K "System")) "__setattr__" = some (some (.builtin "object.__setattr__")) := of_decide_eq_true (SaysB.ck c 4 (f := fun K => decide (PySem.W.findIn K (.ref (He.ga K "System")) "__setattr__" = some (some (.builtin "object.__setattr__")))) rfl)
  have mkS : PySem.W.makesIn K (He.ga K "System") = true := (SaysB.ck c 5 (f := fun K => PySem.W.makesIn K (He.ga K "System")) rfl)
  have kcS : PySem.W.keepIn K (.ref (He.ga K "System")) = true := (SaysB.ck c 6 (f := fun K => PySem.W.keepIn K (.ref (He.ga K "System"))) rfl)
  have noS0 : PySem.W.findIn K (.ref (He.ga K "System")) "process_limit" = some none := of_decide_eq_true (SaysB.ck c 7 (f := fun K => decide (PySem.W.findIn K (.ref (He.ga K "System")) "process_limit" = some none)) rfl)
  have noS1 : PySem.W.findIn K (.ref (He.ga K "System")) "number_limit" = some none := of_decide_eq_true (SaysB.ck c 8 (f := fun K => decide (PySem.W.findIn K (.ref (He.ga K "System")) "number_limit" = some none)) rfl)
  have noS2 : PySem.W.findIn K (.ref (He.ga K "System")) "tables" = some none := of_decide_eq_true (SaysB.ck c 9 (f := fun K => decide (PySem.W.findIn K (.ref (He.ga K "System")) "tables" = some none)) rfl)
  have noS3 : PySem.W.findIn K (.ref (He.ga K "System")) "sources" = some none := of_decide_eq_true (SaysB.ck c 10 (f := fun K => decide (PySem.W.findIn K (.ref (He.ga K "System")) "sources" = some none)) rfl)
  have noS4 : PySem.W.findIn K (.ref (He.ga K "System")) "sets" = some none := of_decide_eq_true (SaysB.ck c 11 (f := fun K => decide (PySem.W.findIn K (.ref (He.ga K "System")) "sets" = some none)) rfl)
  have noS5 : PySem.W.findIn K (.ref (He.ga K "System")) "next_thing" = some none := of_decide_eq_true (SaysB.ck c 12 (f := fun K => decide (PySem.W.findIn K (.ref (He.ga K "System")) "next_thing" = some none)) rfl)
  have gCW : PySem.W.nsIn K mainGlobals "WaitingSet" = some (some (.ref (He.ga K "WaitingSet"))) := of_decide_eq_true (SaysB.ck c 13 (f := fun K => decide (PySem.W.nsIn K mainGlobals "WaitingSet" = some (some (.ref (He.ga K "WaitingSet"))))) rfl)
  have pgW : PySem.W.plainGet K (He.ga K "WaitingSet") Str.empty = true := (SaysB.ck c 14 (f := fun K => PySem.W.plainGet K (He.ga K "WaitingSet") Str.empty) rfl)
  have hdW : PySem.W.hasDictIn K (He.ga K "WaitingSet") = true := (SaysB.ck c 15 (f := fun K => PySem.W.hasDictIn K (He.ga K "WaitingSet")) rfl)
  have poW : PySem.W.plainOver K (He.ga K "WaitingSet") = true := (SaysB.ck c 16 (f := fun K => PySem.W.plainOver K (He.ga K "WaitingSet")) rfl)
  have saW : PySem.W.findIn K (.ref (He.ga K "WaitingSet")) "__setattr__" = some (some (.builtin "object.__setattr__")) := of_decide_eq_true (SaysB.ck c 17 (f := fun K => decide (PySem.W.findIn K (.ref (He.ga K "WaitingSet")) "__setattr__" = some (some (.builtin "object.__setattr__")))) rfl)
  have mkW : PySem.W.makesIn K (He.ga K "WaitingSet") = true := (SaysB.ck c 18 (f := fun K => PySem.W.makesIn K (He.ga K "WaitingSet")) rfl)
  have kcW : PySem.W.keepIn K (.ref (He.ga K "WaitingSet")) = true := (SaysB.ck c 19 (f := fun K => PySem.W.keepIn K (.ref (He.ga K "WaitingSet"))) rfl)
  have noW0 : PySem.W.findIn K (.ref (He.ga K "WaitingSet")) "entries" = some none := of_decide_eq_true (SaysB.ck c 20 (f := fun K => decide (PySem.W.findIn K (.ref (He.ga K "WaitingSet")) "entries" = some none)) rfl)
  have noW1 : PySem.W.findIn K (.ref (He.ga K "WaitingSet")) "queue" = some none := of_decide_eq_true (SaysB.ck c 21 (f := fun K => decide (PySem.W.findIn K (.ref (He.ga K "WaitingSet")) "queue" = some none)) rfl)
  have gCR : PySem.W.nsIn K mainGlobals "Registration" = some (some (.ref (He.ga K "Registration"))) := of_decide_eq_true (SaysB.ck c 22 (f := fun K => decide (PySem.W.nsIn K mainGlobals "Registration" = some (some (.ref (He.ga K "Registration"))))) rfl)
  have pgR : PySem.W.plainGet K (He.ga K "Registration") Str.empty = true := (SaysB.ck c 23 (f := fun K => PySem.W.plainGet K (He.ga K "Registration") Str.empty) rfl)
  have hdR : PySem.W.hasDictIn K (He.ga K "Registration") = true := (SaysB.ck c 24 (f := fun K => PySem.W.hasDictIn K (He.ga K "Registration")) rfl)
  have poR : PySem.W.plainOver K (He.ga K "Registration") = true := (SaysB.ck c 25 (f := fun K => PySem.W.plainOver K (He.ga K "Registration")) rfl)
  have saR : PySem.W.findIn K (.ref (He.ga K "Registration")) "__setattr__" = some (some (.builtin "object.__setattr__")) := of_decide_eq_true (SaysB.ck c 26 (f := fun K => decide (PySem.W.findIn K (.ref (He.ga K "Registration")) "__setattr__" = some (some (.builtin "object.__setattr__")))) rfl)
  have mkR : PySem.W.makesIn K (He.ga K "Registration") = true := (SaysB.ck c 27 (f := fun K => PySem.W.makesIn K (He.ga K "Registration")) rfl)
  have kcR : PySem.W.keepIn K (.ref (He.ga K "Registration")) = true := (SaysB.ck c 28 (f := fun K => PySem.W.keepIn K (.ref (He.ga K "Registration"))) rfl)
  have noR0 : PySem.W.findIn K (.ref (He.ga K "Registration")) "number" = some none := of_decide_eq_true (SaysB.ck c 29 (f := fun K => decide (PySem.W.findIn K (.ref (He.ga K "Registration")) "number" = some none)) rfl)
  have noR1 : PySem.W.findIn K (.ref (He.ga K "Registration")) "source" = some none := of_decide_eq_true (SaysB.ck c 30 (f := fun K => decide (PySem.W.findIn K (.ref (He.ga K "Registration")) "source" = some none)) rfl)
  have noR2 : PySem.W.findIn K (.ref (He.ga K "Registration")) "word" = some none := of_decide_eq_true (SaysB.ck c 31 (f := fun K => decide (PySem.W.findIn K (.ref (He.ga K "Registration")) "word" = some none)) rfl)
  have noR3 : PySem.W.findIn K (.ref (He.ga K "Registration")) "armed" = some none := of_decide_eq_true (SaysB.ck c 32 (f := fun K => decide (PySem.W.findIn K (.ref (He.ga K "Registration")) "armed" = some none)) rfl)
  have nWR : (He.ga K "WaitingSet") ≠ (He.ga K "Registration") := of_decide_eq_true (SaysB.ck c 33 (f := fun K => decide ((He.ga K "WaitingSet") ≠ (He.ga K "Registration"))) rfl)
  have gCPr : PySem.W.nsIn K mainGlobals "NoProcess" = some (some (.ref (He.ga K "NoProcess"))) := of_decide_eq_true (SaysB.ck c 34 (f := fun K => decide (PySem.W.nsIn K mainGlobals "NoProcess" = some (some (.ref (He.ga K "NoProcess"))))) rfl)
  obtain ⟨nmPr, qPr, NPr, bsPr, snPr, subPr, abPr, colPr, ddPr, maPr, mbPr, mcPr, mdPr, mePr, xLPr⟩ := excB_ok (SaysB.ck c 35 (f := fun K => excB K (He.ga K "NoProcess") [.type "LookupError", .type "Exception", .type "BaseException", .type "object"] "LookupError.__new__") rfl)
  have xsaPr : PySem.W.findIn K (.ref (He.ga K "NoProcess")) "__setattr__" = some (some (.builtin "object.__setattr__")) := of_decide_eq_true (SaysB.ck c 36 (f := fun K => decide (PySem.W.findIn K (.ref (He.ga K "NoProcess")) "__setattr__" = some (some (.builtin "object.__setattr__")))) rfl)
  have xgaPr : PySem.W.findIn K (.ref (He.ga K "NoProcess")) "__getattribute__" = some (some (.builtin "BaseException.__getattribute__")) := of_decide_eq_true (SaysB.ck c 37 (f := fun K => decide (PySem.W.findIn K (.ref (He.ga K "NoProcess")) "__getattribute__" = some (some (.builtin "BaseException.__getattribute__")))) rfl)
  have xggPr : PySem.W.findIn K (.ref (He.ga K "NoProcess")) "__getattr__" = some none := of_decide_eq_true (SaysB.ck c 38 (f := fun K => decide (PySem.W.findIn K (.ref (He.ga K "NoProcess")) "__getattr__" = some none)) rfl)
  have xnbPr0 : PySem.W.findIn K (.ref (He.ga K "NoProcess")) "process" = some none := of_decide_eq_true (SaysB.ck c 39 (f := fun K => decide (PySem.W.findIn K (.ref (He.ga K "NoProcess")) "process" = some none)) rfl)
  have xvVPr : PySem.W.findCls K (.type "LookupError") (.type "type") "__init__" = some (.val (.builtin "LookupError.__init__")) := clsB_ok (SaysB.ck c 40 (f := fun K => clsB (PySem.W.findCls K (.type "LookupError") (.type "type") "__init__") "LookupError.__init__") rfl)
  have xkCPr : PySem.W.keepIn K (.ref (He.ga K "NoProcess")) = true := (SaysB.ck c 41 (f := fun K => PySem.W.keepIn K (.ref (He.ga K "NoProcess"))) rfl)
  have xeCPr : PySem.W.subIn K (.ref (He.ga K "NoProcess")) (.type "BaseException") = some true := of_decide_eq_true (SaysB.ck c 42 (f := fun K => decide (PySem.W.subIn K (.ref (He.ga K "NoProcess")) (.type "BaseException") = some true)) rfl)
  have xtCPr : PySem.W.typeIn K (.ref (He.ga K "NoProcess")) = some (.type "type") := of_decide_eq_true (SaysB.ck c 43 (f := fun K => decide (PySem.W.typeIn K (.ref (He.ga K "NoProcess")) = some (.type "type"))) rfl)
  have xhCPr : PySem.W.hasDictIn K (He.ga K "NoProcess") = true := (SaysB.ck c 44 (f := fun K => PySem.W.hasDictIn K (He.ga K "NoProcess")) rfl)
  have xtePr : PySem.W.exmOne K (.ref (He.ga K "NoProcess")) (.ref (He.ga K "NoProcess")) = some true := of_decide_eq_true (SaysB.ck c 45 (f := fun K => decide (PySem.W.exmOne K (.ref (He.ga K "NoProcess")) (.ref (He.ga K "NoProcess")) = some true)) rfl)
  have xC1Pr : PySem.W.findIn K (.ref (He.ga K "NoProcess")) "__class__" = some (some (.builtin "object.__class__")) := of_decide_eq_true (SaysB.ck c 46 (f := fun K => decide (PySem.W.findIn K (.ref (He.ga K "NoProcess")) "__class__" = some (some (.builtin "object.__class__")))) rfl)
  have xC4Pr : PySem.W.mroIn K (He.ga K "NoProcess") (.type "object") = some true := of_decide_eq_true (SaysB.ck c 47 (f := fun K => decide (PySem.W.mroIn K (He.ga K "NoProcess") (.type "object") = some true)) rfl)
  have xC5Pr : (PySem.W.clsIn K (He.ga K "NoProcess")).isSome = true := (SaysB.ck c 48 (f := fun K => (PySem.W.clsIn K (He.ga K "NoProcess")).isSome) rfl)
  have xkvPr : PySem.W.kitOne K (.ref (He.ga K "NoProcess")) (.type "LookupError") = some true := of_decide_eq_true (SaysB.ck c 49 (f := fun K => decide (PySem.W.kitOne K (.ref (He.ga K "NoProcess")) (.type "LookupError") = some true)) rfl)
  have xC2 : PySem.W.specialIn K (.builtin "object.__class__") "__get__" = some (some (.builtin "getset_descriptor.__get__")) := of_decide_eq_true (SaysB.ck c 50 (f := fun K => decide (PySem.W.specialIn K (.builtin "object.__class__") "__get__" = some (some (.builtin "getset_descriptor.__get__")))) rfl)
  have xC3 : PySem.W.takesIn K (.builtin "object.__class__") = some true := of_decide_eq_true (SaysB.ck c 51 (f := fun K => decide (PySem.W.takesIn K (.builtin "object.__class__") = some true)) rfl)
  have gCOp : PySem.W.nsIn K mainGlobals "NotOpen" = some (some (.ref (He.ga K "NotOpen"))) := of_decide_eq_true (SaysB.ck c 52 (f := fun K => decide (PySem.W.nsIn K mainGlobals "NotOpen" = some (some (.ref (He.ga K "NotOpen"))))) rfl)
  obtain ⟨nmOp, qOp, NOp, bsOp, snOp, subOp, abOp, colOp, ddOp, maOp, mbOp, mcOp, mdOp, meOp, xLOp⟩ := excB_ok (SaysB.ck c 53 (f := fun K => excB K (He.ga K "NotOpen") [.type "LookupError", .type "Exception", .type "BaseException", .type "object"] "LookupError.__new__") rfl)
  have xsaOp : PySem.W.findIn K (.ref (He.ga K "NotOpen")) "__setattr__" = some (some (.builtin "object.__setattr__")) := of_decide_eq_true (SaysB.ck c 54 (f := fun K => decide (PySem.W.findIn K (.ref (He.ga K "NotOpen")) "__setattr__" = some (some (.builtin "object.__setattr__")))) rfl)
  have xgaOp : PySem.W.findIn K (.ref (He.ga K "NotOpen")) "__getattribute__" = some (some (.builtin "BaseException.__getattribute__")) := of_decide_eq_true (SaysB.ck c 55 (f := fun K => decide (PySem.W.findIn K (.ref (He.ga K "NotOpen")) "__getattribute__" = some (some (.builtin "BaseException.__getattribute__")))) rfl)
  have xggOp : PySem.W.findIn K (.ref (He.ga K "NotOpen")) "__getattr__" = some none := of_decide_eq_true (SaysB.ck c 56 (f := fun K => decide (PySem.W.findIn K (.ref (He.ga K "NotOpen")) "__getattr__" = some none)) rfl)
  have xnbOp0 : PySem.W.findIn K (.ref (He.ga K "NotOpen")) "number" = some none := of_decide_eq_true (SaysB.ck c 57 (f := fun K => decide (PySem.W.findIn K (.ref (He.ga K "NotOpen")) "number" = some none)) rfl)
  have xvVOp : PySem.W.findCls K (.type "LookupError") (.type "type") "__init__" = some (.val (.builtin "LookupError.__init__")) := clsB_ok (SaysB.ck c 58 (f := fun K => clsB (PySem.W.findCls K (.type "LookupError") (.type "type") "__init__") "LookupError.__init__") rfl)
  have xkCOp : PySem.W.keepIn K (.ref (He.ga K "NotOpen")) = true := (SaysB.ck c 59 (f := fun K => PySem.W.keepIn K (.ref (He.ga K "NotOpen"))) rfl)
  have xeCOp : PySem.W.subIn K (.ref (He.ga K "NotOpen")) (.type "BaseException") = some true := of_decide_eq_true (SaysB.ck c 60 (f := fun K => decide (PySem.W.subIn K (.ref (He.ga K "NotOpen")) (.type "BaseException") = some true)) rfl)
  have xtCOp : PySem.W.typeIn K (.ref (He.ga K "NotOpen")) = some (.type "type") := of_decide_eq_true (SaysB.ck c 61 (f := fun K => decide (PySem.W.typeIn K (.ref (He.ga K "NotOpen")) = some (.type "type"))) rfl)
  have xhCOp : PySem.W.hasDictIn K (He.ga K "NotOpen") = true := (SaysB.ck c 62 (f := fun K => PySem.W.hasDictIn K (He.ga K "NotOpen")) rfl)
  have xteOp : PySem.W.exmOne K (.ref (He.ga K "NotOpen")) (.ref (He.ga K "NotOpen")) = some true := of_decide_eq_true (SaysB.ck c 63 (f := fun K => decide (PySem.W.exmOne K (.ref (He.ga K "NotOpen")) (.ref (He.ga K "NotOpen")) = some true)) rfl)
  have xC1Op : PySem.W.findIn K (.ref (He.ga K "NotOpen")) "__class__" = some (some (.builtin "object.__class__")) := of_decide_eq_true (SaysB.ck c 64 (f := fun K => decide (PySem.W.findIn K (.ref (He.ga K "NotOpen")) "__class__" = some (some (.builtin "object.__class__")))) rfl)
  have xC4Op : PySem.W.mroIn K (He.ga K "NotOpen") (.type "object") = some true := of_decide_eq_true (SaysB.ck c 65 (f := fun K => decide (PySem.W.mroIn K (He.ga K "NotOpen") (.type "object") = some true)) rfl)
  have xC5Op : (PySem.W.clsIn K (He.ga K "NotOpen")).isSome = true := (SaysB.ck c 66 (f := fun K => (PySem.W.clsIn K (He.ga K "NotOpen")).isSome) rfl)
  have xkvOp : PySem.W.kitOne K (.ref (He.ga K "NotOpen")) (.type "LookupError") = some true := of_decide_eq_true (SaysB.ck c 67 (f := fun K => decide (PySem.W.kitOne K (.ref (He.ga K "NotOpen")) (.type "LookupError") = some true)) rfl)
  have gCNu : PySem.W.nsIn K mainGlobals "NoNumber" = some (some (.ref (He.ga K "NoNumber"))) := of_decide_eq_true (SaysB.ck c 68 (f := fun K => decide (PySem.W.nsIn K mainGlobals "NoNumber" = some (some (.ref (He.ga K "NoNumber"))))) rfl)
  obtain ⟨nmNu, qNu, NNu, bsNu, snNu, subNu, abNu, colNu, ddNu, maNu, mbNu, mcNu, mdNu, meNu, xLNu⟩ := excB_ok (SaysB.ck c 69 (f := fun K => excB K (He.ga K "NoNumber") [.type "LookupError", .type "Exception", .type "BaseException", .type "object"] "LookupError.__new__") rfl)
  have xsaNu : PySem.W.findIn K (.ref (He.ga K "NoNumber")) "__setattr__" = some (some (.builtin "object.__setattr__")) := of_decide_eq_true (SaysB.ck c 70 (f := fun K => decide (PySem.W.findIn K (.ref (He.ga K "NoNumber")) "__setattr__" = some (some (.builtin "object.__setattr__")))) rfl)
  have xgaNu : PySem.W.findIn K (.ref (He.ga K "NoNumber")) "__getattribute__" = some (some (.builtin "BaseException.__getattribute__")) := of_decide_eq_true (SaysB.ck c 71 (f := fun K => decide (PySem.W.findIn K (.ref (He.ga K "NoNumber")) "__getattribute__" = some (some (.builtin "BaseException.__getattribute__")))) rfl)
  have xggNu : PySem.W.findIn K (.ref (He.ga K "NoNumber")) "__getattr__" = some none := of_decide_eq_true (SaysB.ck c 72 (f := fun K => decide (PySem.W.findIn K (.ref (He.ga K "NoNumber")) "__getattr__" = some none)) rfl)
  have xnbNu0 : PySem.W.findIn K (.ref (He.ga K "NoNumber")) "number" = some none := of_decide_eq_true (SaysB.ck c 73 (f := fun K => decide (PySem.W.findIn K (.ref (He.ga K "NoNumber")) "number" = some none)) rfl)
  have xvVNu : PySem.W.findCls K (.type "LookupError") (.type "type") "__init__" = some (.val (.builtin "LookupError.__init__")) := clsB_ok (SaysB.ck c 74 (f := fun K => clsB (PySem.W.findCls K (.type "LookupError") (.type "type") "__init__") "LookupError.__init__") rfl)
  have xkCNu : PySem.W.keepIn K (.ref (He.ga K "NoNumber")) = true := (SaysB.ck c 75 (f := fun K => PySem.W.keepIn K (.ref (He.ga K "NoNumber"))) rfl)
  have xeCNu : PySem.W.subIn K (.ref (He.ga K "NoNumber")) (.type "BaseException") = some true := of_decide_eq_true (SaysB.ck c 76 (f := fun K => decide (PySem.W.subIn K (.ref (He.ga K "NoNumber")) (.type "BaseException") = some true)) rfl)
  have xtCNu : PySem.W.typeIn K (.ref (He.ga K "NoNumber")) = some (.type "type") := of_decide_eq_true (SaysB.ck c 77 (f := fun K => decide (PySem.W.typeIn K (.ref (He.ga K "NoNumber")) = some (.type "type"))) rfl)
  have xhCNu : PySem.W.hasDictIn K (He.ga K "NoNumber") = true := (SaysB.ck c 78 (f := fun K => PySem.W.hasDictIn K (He.ga K "NoNumber")) rfl)
  have xteNu : PySem.W.exmOne K (.ref (He.ga K "NoNumber")) (.ref (He.ga K "NoNumber")) = some true := of_decide_eq_true (SaysB.ck c 79 (f := fun K => decide (PySem.W.exmOne K (.ref (He.ga K "NoNumber")) (.ref (He.ga K "NoNumber")) = some true)) rfl)
  have xC1Nu : PySem.W.findIn K (.ref (He.ga K "NoNumber")) "__class__" = some (some (.builtin "object.__class__")) := of_decide_eq_true (SaysB.ck c 80 (f := fun K => decide (PySem.W.findIn K (.ref (He.ga K "NoNumber")) "__class__" = some (some (.builtin "object.__class__")))) rfl)
  have xC4Nu : PySem.W.mroIn K (He.ga K "NoNumber") (.type "object") = some true := of_decide_eq_true (SaysB.ck c 81 (f := fun K => decide (PySem.W.mroIn K (He.ga K "NoNumber") (.type "object") = some true)) rfl)
  have xC5Nu : (PySem.W.clsIn K (He.ga K "NoNumber")).isSome = true := (SaysB.ck c 82 (f := fun K => (PySem.W.clsIn K (He.ga K "NoNumber")).isSome) rfl)
  have xkvNu : PySem.W.kitOne K (.ref (He.ga K "NoNumber")) (.type "LookupError") = some true := of_decide_eq_true (SaysB.ck c 83 (f := fun K => decide (PySem.W.kitOne K (.ref (He.ga K "NoNumber")) (.type "LookupError") = some true)) rfl)
  have gCNs : PySem.W.nsIn K mainGlobals "NotASource" = some (some (.ref (He.ga K "NotASource"))) := of_decide_eq_true (SaysB.ck c 84 (f := fun K => decide (PySem.W.nsIn K mainGlobals "NotASource" = some (some (.ref (He.ga K "NotASource"))))) rfl)
  obtain ⟨nmNs, qNs, NNs, bsNs, snNs, subNs, abNs, colNs, ddNs, maNs, mbNs, mcNs, mdNs, meNs, xLNs⟩ := excB_ok (SaysB.ck c 85 (f := fun K => excB K (He.ga K "NotASource") [.type "TypeError", .type "Exception", .type "BaseException", .type "object"] "TypeError.__new__") rfl)
  have xsaNs : PySem.W.findIn K (.ref (He.ga K "NotASource")) "__setattr__" = some (some (.builtin "object.__setattr__")) := of_decide_eq_true (SaysB.ck c 86 (f := fun K => decide (PySem.W.findIn K (.ref (He.ga K "NotASource")) "__setattr__" = some (some (.builtin "object.__setattr__")))) rfl)
  have xgaNs : PySem.W.findIn K (.ref (He.ga K "NotASource")) "__getattribute__" = some (some (.builtin "BaseException.__getattribute__")) := of_decide_eq_true (SaysB.ck c 87 (f := fun K => decide (PySem.W.findIn K (.ref (He.ga K "NotASource")) "__getattribute__" = some (some (.builtin "BaseException.__getattribute__")))) rfl)
  have xggNs : PySem.W.findIn K (.ref (He.ga K "NotASource")) "__getattr__" = some none := of_decide_eq_true (SaysB.ck c 88 (f := fun K => decide (PySem.W.findIn K (.ref (He.ga K "NotASource")) "__getattr__" = some none)) rfl)
  have xnbNs0 : PySem.W.findIn K (.ref (He.ga K "NotASource")) "number" = some none := of_decide_eq_true (SaysB.ck c 89 (f := fun K => decide (PySem.W.findIn K (.ref (He.ga K "NotASource")) "number" = some none)) rfl)
  have xvVNs : PySem.W.findCls K (.type "TypeError") (.type "type") "__init__" = some (.val (.builtin "TypeError.__init__")) := clsB_ok (SaysB.ck c 90 (f := fun K => clsB (PySem.W.findCls K (.type "TypeError") (.type "type") "__init__") "TypeError.__init__") rfl)
  have xkCNs : PySem.W.keepIn K (.ref (He.ga K "NotASource")) = true := (SaysB.ck c 91 (f := fun K => PySem.W.keepIn K (.ref (He.ga K "NotASource"))) rfl)
  have xeCNs : PySem.W.subIn K (.ref (He.ga K "NotASource")) (.type "BaseException") = some true := of_decide_eq_true (SaysB.ck c 92 (f := fun K => decide (PySem.W.subIn K (.ref (He.ga K "NotASource")) (.type "BaseException") = some true)) rfl)
  have xtCNs : PySem.W.typeIn K (.ref (He.ga K "NotASource")) = some (.type "type") := of_decide_eq_true (SaysB.ck c 93 (f := fun K => decide (PySem.W.typeIn K (.ref (He.ga K "NotASource")) = some (.type "type"))) rfl)
  have xhCNs : PySem.W.hasDictIn K (He.ga K "NotASource") = true := (SaysB.ck c 94 (f := fun K => PySem.W.hasDictIn K (He.ga K "NotASource")) rfl)
  have xteNs : PySem.W.exmOne K (.ref (He.ga K "NotASource")) (.ref (He.ga K "NotASource")) = some true := of_decide_eq_true (SaysB.ck c 95 (f := fun K => decide (PySem.W.exmOne K (.ref (He.ga K "NotASource")) (.ref (He.ga K "NotASource")) = some true)) rfl)
  have xC1Ns : PySem.W.findIn K (.ref (He.ga K "NotASource")) "__class__" = some (some (.builtin "object.__class__")) := of_decide_eq_true (SaysB.ck c 96 (f := fun K => decide (PySem.W.findIn K (.ref (He.ga K "NotASource")) "__class__" = some (some (.builtin "object.__class__")))) rfl)
  have xC4Ns : PySem.W.mroIn K (He.ga K "NotASource") (.type "object") = some true := of_decide_eq_true (SaysB.ck c 97 (f := fun K => decide (PySem.W.mroIn K (He.ga K "NotASource") (.type "object") = some true)) rfl)
  have xC5Ns : (PySem.W.clsIn K (He.ga K "NotASource")).isSome = true := (SaysB.ck c 98 (f := fun K => (PySem.W.clsIn K (He.ga K "NotASource")).isSome) rfl)
  have xkvNs : PySem.W.kitOne K (.ref (He.ga K "NotASource")) (.type "TypeError") = some true := of_decide_eq_true (SaysB.ck c 99 (f := fun K => decide (PySem.W.kitOne K (.ref (He.ga K "NotASource")) (.type "TypeError") = some true)) rfl)
  have gCNt : PySem.W.nsIn K mainGlobals "NotASet" = some (some (.ref (He.ga K "NotASet"))) := of_decide_eq_true (SaysB.ck c 100 (f := fun K => decide (PySem.W.nsIn K mainGlobals "NotASet" = some (some (.ref (He.ga K "NotASet"))))) rfl)
  obtain ⟨nmNt, qNt, NNt, bsNt, snNt, subNt, abNt, colNt, ddNt, maNt, mbNt, mcNt, mdNt, meNt, xLNt⟩ := excB_ok (SaysB.ck c 101 (f := fun K => excB K (He.ga K "NotASet") [.type "TypeError", .type "Exception", .type "BaseException", .type "object"] "TypeError.__new__") rfl)
  have xsaNt : PySem.W.findIn K (.ref (He.ga K "NotASet")) "__setattr__" = some (some (.builtin "object.__setattr__")) := of_decide_eq_true (SaysB.ck c 102 (f := fun K => decide (PySem.W.findIn K (.ref (He.ga K "NotASet")) "__setattr__" = some (some (.builtin "object.__setattr__")))) rfl)
  have xgaNt : PySem.W.findIn K (.ref (He.ga K "NotASet")) "__getattribute__" = some (some (.builtin "BaseException.__getattribute__")) := of_decide_eq_true (SaysB.ck c 103 (f := fun K => decide (PySem.W.findIn K (.ref (He.ga K "NotASet")) "__getattribute__" = some (some (.builtin "BaseException.__getattribute__")))) rfl)
  have xggNt : PySem.W.findIn K (.ref (He.ga K "NotASet")) "__getattr__" = some none := of_decide_eq_true (SaysB.ck c 104 (f := fun K => decide (PySem.W.findIn K (.ref (He.ga K "NotASet")) "__getattr__" = some none)) rfl)
  have xnbNt0 : PySem.W.findIn K (.ref (He.ga K "NotASet")) "number" = some none := of_decide_eq_true (SaysB.ck c 105 (f := fun K => decide (PySem.W.findIn K (.ref (He.ga K "NotASet")) "number" = some none)) rfl)
  have xvVNt : PySem.W.findCls K (.type "TypeError") (.type "type") "__init__" = some (.val (.builtin "TypeError.__init__")) := clsB_ok (SaysB.ck c 106 (f := fun K => clsB (PySem.W.findCls K (.type "TypeError") (.type "type") "__init__") "TypeError.__init__") rfl)
  have xkCNt : PySem.W.keepIn K (.ref (He.ga K "NotASet")) = true := (SaysB.ck c 107 (f := fun K => PySem.W.keepIn K (.ref (He.ga K "NotASet"))) rfl)
  have xeCNt : PySem.W.subIn K (.ref (He.ga K "NotASet")) (.type "BaseException") = some true := of_decide_eq_true (SaysB.ck c 108 (f := fun K => decide (PySem.W.subIn K (.ref (He.ga K "NotASet")) (.type "BaseException") = some true)) rfl)
  have xtCNt : PySem.W.typeIn K (.ref (He.ga K "NotASet")) = some (.type "type") := of_decide_eq_true (SaysB.ck c 109 (f := fun K => decide (PySem.W.typeIn K (.ref (He.ga K "NotASet")) = some (.type "type"))) rfl)
  have xhCNt : PySem.W.hasDictIn K (He.ga K "NotASet") = true := (SaysB.ck c 110 (f := fun K => PySem.W.hasDictIn K (He.ga K "NotASet")) rfl)
  have xteNt : PySem.W.exmOne K (.ref (He.ga K "NotASet")) (.ref (He.ga K "NotASet")) = some true := of_decide_eq_true (SaysB.ck c 111 (f := fun K => decide (PySem.W.exmOne K (.ref (He.ga K "NotASet")) (.ref (He.ga K "NotASet")) = some true)) rfl)
  have xC1Nt : PySem.W.findIn K (.ref (He.ga K "NotASet")) "__class__" = some (some (.builtin "object.__class__")) := of_decide_eq_true (SaysB.ck c 112 (f := fun K => decide (PySem.W.findIn K (.ref (He.ga K "NotASet")) "__class__" = some (some (.builtin "object.__class__")))) rfl)
  have xC4Nt : PySem.W.mroIn K (He.ga K "NotASet") (.type "object") = some true := of_decide_eq_true (SaysB.ck c 113 (f := fun K => decide (PySem.W.mroIn K (He.ga K "NotASet") (.type "object") = some true)) rfl)
  have xC5Nt : (PySem.W.clsIn K (He.ga K "NotASet")).isSome = true := (SaysB.ck c 114 (f := fun K => (PySem.W.clsIn K (He.ga K "NotASet")).isSome) rfl)
  have xkvNt : PySem.W.kitOne K (.ref (He.ga K "NotASet")) (.type "TypeError") = some true := of_decide_eq_true (SaysB.ck c 115 (f := fun K => decide (PySem.W.kitOne K (.ref (He.ga K "NotASet")) (.type "TypeError") = some true)) rfl)
  have gCFu : PySem.W.nsIn K mainGlobals "Full" = some (some (.ref (He.ga K "Full"))) := of_decide_eq_true (SaysB.ck c 116 (f := fun K => decide (PySem.W.nsIn K mainGlobals "Full" = some (some (.ref (He.ga K "Full"))))) rfl)
  obtain ⟨nmFu, qFu, NFu, bsFu, snFu, subFu, abFu, colFu, ddFu, maFu, mbFu, mcFu, mdFu, meFu, xLFu⟩ := excB_ok (SaysB.ck c 117 (f := fun K => excB K (He.ga K "Full") [.type "OverflowError", .type "ArithmeticError", .type "Exception", .type "BaseException", .type "object"] "OverflowError.__new__") rfl)
  have xsaFu : PySem.W.findIn K (.ref (He.ga K "Full")) "__setattr__" = some (some (.builtin "object.__setattr__")) := of_decide_eq_true (SaysB.ck c 118 (f := fun K => decide (PySem.W.findIn K (.ref (He.ga K "Full")) "__setattr__" = some (some (.builtin "object.__setattr__")))) rfl)
  have xgaFu : PySem.W.findIn K (.ref (He.ga K "Full")) "__getattribute__" = some (some (.builtin "BaseException.__getattribute__")) := of_decide_eq_true (SaysB.ck c 119 (f := fun K => decide (PySem.W.findIn K (.ref (He.ga K "Full")) "__getattribute__" = some (some (.builtin "BaseException.__getattribute__")))) rfl)
  have xggFu : PySem.W.findIn K (.ref (He.ga K "Full")) "__getattr__" = some none := of_decide_eq_true (SaysB.ck c 120 (f := fun K => decide (PySem.W.findIn K (.ref (He.ga K "Full")) "__getattr__" = some none)) rfl)
  have xnbFu0 : PySem.W.findIn K (.ref (He.ga K "Full")) "process" = some none := of_decide_eq_true (SaysB.ck c 121 (f := fun K => decide (PySem.W.findIn K (.ref (He.ga K "Full")) "process" = some none)) rfl)
  have xvVFu : PySem.W.findCls K (.type "OverflowError") (.type "type") "__init__" = some (.val (.builtin "OverflowError.__init__")) := clsB_ok (SaysB.ck c 122 (f := fun K => clsB (PySem.W.findCls K (.type "OverflowError") (.type "type") "__init__") "OverflowError.__init__") rfl)
  have xkCFu : PySem.W.keepIn K (.ref (He.ga K "Full")) = true := (SaysB.ck c 123 (f := fun K => PySem.W.keepIn K (.ref (He.ga K "Full"))) rfl)
  have xeCFu : PySem.W.subIn K (.ref (He.ga K "Full")) (.type "BaseException") = some true := of_decide_eq_true (SaysB.ck c 124 (f := fun K => decide (PySem.W.subIn K (.ref (He.ga K "Full")) (.type "BaseException") = some true)) rfl)
  have xtCFu : PySem.W.typeIn K (.ref (He.ga K "Full")) = some (.type "type") := of_decide_eq_true (SaysB.ck c 125 (f := fun K => decide (PySem.W.typeIn K (.ref (He.ga K "Full")) = some (.type "type"))) rfl)
  have xhCFu : PySem.W.hasDictIn K (He.ga K "Full") = true := (SaysB.ck c 126 (f := fun K => PySem.W.hasDictIn K (He.ga K "Full")) rfl)
  have xteFu : PySem.W.exmOne K (.ref (He.ga K "Full")) (.ref (He.ga K "Full")) = some true := of_decide_eq_true (SaysB.ck c 127 (f := fun K => decide (PySem.W.exmOne K (.ref (He.ga K "Full")) (.ref (He.ga K "Full")) = some true)) rfl)
  have xC1Fu : PySem.W.findIn K (.ref (He.ga K "Full")) "__class__" = some (some (.builtin "object.__class__")) := of_decide_eq_true (SaysB.ck c 128 (f := fun K => decide (PySem.W.findIn K (.ref (He.ga K "Full")) "__class__" = some (some (.builtin "object.__class__")))) rfl)
  have xC4Fu : PySem.W.mroIn K (He.ga K "Full") (.type "object") = some true := of_decide_eq_true (SaysB.ck c 129 (f := fun K => decide (PySem.W.mroIn K (He.ga K "Full") (.type "object") = some true)) rfl)
  have xC5Fu : (PySem.W.clsIn K (He.ga K "Full")).isSome = true := (SaysB.ck c 130 (f := fun K => (PySem.W.clsIn K (He.ga K "Full")).isSome) rfl)
  have xkvFu : PySem.W.kitOne K (.ref (He.ga K "Full")) (.type "OverflowError") = some true := of_decide_eq_true (SaysB.ck c 131 (f := fun K => decide (PySem.W.kitOne K (.ref (He.ga K "Full")) (.type "OverflowError") = some true)) rfl)
  have gCNo : PySem.W.nsIn K mainGlobals "NoRoom" = some (some (.ref (He.ga K "NoRoom"))) := of_decide_eq_true (SaysB.ck c 132 (f := fun K => decide (PySem.W.nsIn K mainGlobals "NoRoom" = some (some (.ref (He.ga K "NoRoom"))))) rfl)
  obtain ⟨nmNo, qNo, NNo, bsNo, snNo, subNo, abNo, colNo, ddNo, maNo, mbNo, mcNo, mdNo, meNo, xLNo⟩ := excB_ok (SaysB.ck c 133 (f := fun K => excB K (He.ga K "NoRoom") [.type "OverflowError", .type "ArithmeticError", .type "Exception", .type "BaseException", .type "object"] "OverflowError.__new__") rfl)
  have xsaNo : PySem.W.findIn K (.ref (He.ga K "NoRoom")) "__setattr__" = some (some (.builtin "object.__setattr__")) := of_decide_eq_true (SaysB.ck c 134 (f := fun K => decide (PySem.W.findIn K (.ref (He.ga K "NoRoom")) "__setattr__" = some (some (.builtin "object.__setattr__")))) rfl)
  have xgaNo : PySem.W.findIn K (.ref (He.ga K "NoRoom")) "__getattribute__" = some (some (.builtin "BaseException.__getattribute__")) := of_decide_eq_true (SaysB.ck c 135 (f := fun K => decide (PySem.W.findIn K (.ref (He.ga K "NoRoom")) "__getattribute__" = some (some (.builtin "BaseException.__getattribute__")))) rfl)
  have xggNo : PySem.W.findIn K (.ref (He.ga K "NoRoom")) "__getattr__" = some none := of_decide_eq_true (SaysB.ck c 136 (f := fun K => decide (PySem.W.findIn K (.ref (He.ga K "NoRoom")) "__getattr__" = some none)) rfl)
  have xvVNo : PySem.W.findCls K (.type "OverflowError") (.type "type") "__init__" = some (.val (.builtin "OverflowError.__init__")) := clsB_ok (SaysB.ck c 137 (f := fun K => clsB (PySem.W.findCls K (.type "OverflowError") (.type "type") "__init__") "OverflowError.__init__") rfl)
  have xkCNo : PySem.W.keepIn K (.ref (He.ga K "NoRoom")) = true := (SaysB.ck c 138 (f := fun K => PySem.W.keepIn K (.ref (He.ga K "NoRoom"))) rfl)
  have xeCNo : PySem.W.subIn K (.ref (He.ga K "NoRoom")) (.type "BaseException") = some true := of_decide_eq_true (SaysB.ck c 139 (f := fun K => decide (PySem.W.subIn K (.ref (He.ga K "NoRoom")) (.type "BaseException") = some true)) rfl)
  have xtCNo : PySem.W.typeIn K (.ref (He.ga K "NoRoom")) = some (.type "type") := of_decide_eq_true (SaysB.ck c 140 (f := fun K => decide (PySem.W.typeIn K (.ref (He.ga K "NoRoom")) = some (.type "type"))) rfl)
  have xhCNo : PySem.W.hasDictIn K (He.ga K "NoRoom") = true := (SaysB.ck c 141 (f := fun K => PySem.W.hasDictIn K (He.ga K "NoRoom")) rfl)
  have xteNo : PySem.W.exmOne K (.ref (He.ga K "NoRoom")) (.ref (He.ga K "NoRoom")) = some true := of_decide_eq_true (SaysB.ck c 142 (f := fun K => decide (PySem.W.exmOne K (.ref (He.ga K "NoRoom")) (.ref (He.ga K "NoRoom")) = some true)) rfl)
  have xC1No : PySem.W.findIn K (.ref (He.ga K "NoRoom")) "__class__" = some (some (.builtin "object.__class__")) := of_decide_eq_true (SaysB.ck c 143 (f := fun K => decide (PySem.W.findIn K (.ref (He.ga K "NoRoom")) "__class__" = some (some (.builtin "object.__class__")))) rfl)
  have xC4No : PySem.W.mroIn K (He.ga K "NoRoom") (.type "object") = some true := of_decide_eq_true (SaysB.ck c 144 (f := fun K => decide (PySem.W.mroIn K (He.ga K "NoRoom") (.type "object") = some true)) rfl)
  have xC5No : (PySem.W.clsIn K (He.ga K "NoRoom")).isSome = true := (SaysB.ck c 145 (f := fun K => (PySem.W.clsIn K (He.ga K "NoRoom")).isSome) rfl)
  have xkvNo : PySem.W.kitOne K (.ref (He.ga K "NoRoom")) (.type "OverflowError") = some true := of_decide_eq_true (SaysB.ck c 146 (f := fun K => decide (PySem.W.kitOne K (.ref (He.ga K "NoRoom")) (.type "OverflowError") = some true)) rfl)
  have gCCo : PySem.W.nsIn K mainGlobals "BadCount" = some (some (.ref (He.ga K "BadCount"))) := of_decide_eq_true (SaysB.ck c 147 (f := fun K => decide (PySem.W.nsIn K mainGlobals "BadCount" = some (some (.ref (He.ga K "BadCount"))))) rfl)
  obtain ⟨nmCo, qCo, NCo, bsCo, snCo, subCo, abCo, colCo, ddCo, maCo, mbCo, mcCo, mdCo, meCo, xLCo⟩ := excB_ok (SaysB.ck c 148 (f := fun K => excB K (He.ga K "BadCount") [.type "ValueError", .type "Exception", .type "BaseException", .type "object"] "ValueError.__new__") rfl)
  have xsaCo : PySem.W.findIn K (.ref (He.ga K "BadCount")) "__setattr__" = some (some (.builtin "object.__setattr__")) := of_decide_eq_true (SaysB.ck c 149 (f := fun K => decide (PySem.W.findIn K (.ref (He.ga K "BadCount")) "__setattr__" = some (some (.builtin "object.__setattr__")))) rfl)
  have xgaCo : PySem.W.findIn K (.ref (He.ga K "BadCount")) "__getattribute__" = some (some (.builtin "BaseException.__getattribute__")) := of_decide_eq_true (SaysB.ck c 150 (f := fun K => decide (PySem.W.findIn K (.ref (He.ga K "BadCount")) "__getattribute__" = some (some (.builtin "BaseException.__getattribute__")))) rfl)
  have xggCo : PySem.W.findIn K (.ref (He.ga K "BadCount")) "__getattr__" = some none := of_decide_eq_true (SaysB.ck c 151 (f := fun K => decide (PySem.W.findIn K (.ref (He.ga K "BadCount")) "__getattr__" = some none)) rfl)
  have xnbCo0 : PySem.W.findIn K (.ref (He.ga K "BadCount")) "count" = some none := of_decide_eq_true (SaysB.ck c 152 (f := fun K => decide (PySem.W.findIn K (.ref (He.ga K "BadCount")) "count" = some none)) rfl)
  have xvVCo : PySem.W.findCls K (.type "ValueError") (.type "type") "__init__" = some (.val (.builtin "ValueError.__init__")) := clsB_ok (SaysB.ck c 153 (f := fun K => clsB (PySem.W.findCls K (.type "ValueError") (.type "type") "__init__") "ValueError.__init__") rfl)
  have xkCCo : PySem.W.keepIn K (.ref (He.ga K "BadCount")) = true := (SaysB.ck c 154 (f := fun K => PySem.W.keepIn K (.ref (He.ga K "BadCount"))) rfl)
  have xeCCo : PySem.W.subIn K (.ref (He.ga K "BadCount")) (.type "BaseException") = some true := of_decide_eq_true (SaysB.ck c 155 (f := fun K => decide (PySem.W.subIn K (.ref (He.ga K "BadCount")) (.type "BaseException") = some true)) rfl)
  have xtCCo : PySem.W.typeIn K (.ref (He.ga K "BadCount")) = some (.type "type") := of_decide_eq_true (SaysB.ck c 156 (f := fun K => decide (PySem.W.typeIn K (.ref (He.ga K "BadCount")) = some (.type "type"))) rfl)
  have xhCCo : PySem.W.hasDictIn K (He.ga K "BadCount") = true := (SaysB.ck c 157 (f := fun K => PySem.W.hasDictIn K (He.ga K "BadCount")) rfl)
  have xteCo : PySem.W.exmOne K (.ref (He.ga K "BadCount")) (.ref (He.ga K "BadCount")) = some true := of_decide_eq_true (SaysB.ck c 158 (f := fun K => decide (PySem.W.exmOne K (.ref (He.ga K "BadCount")) (.ref (He.ga K "BadCount")) = some true)) rfl)
  have xC1Co : PySem.W.findIn K (.ref (He.ga K "BadCount")) "__class__" = some (some (.builtin "object.__class__")) := of_decide_eq_true (SaysB.ck c 159 (f := fun K => decide (PySem.W.findIn K (.ref (He.ga K "BadCount")) "__class__" = some (some (.builtin "object.__class__")))) rfl)
  have xC4Co : PySem.W.mroIn K (He.ga K "BadCount") (.type "object") = some true := of_decide_eq_true (SaysB.ck c 160 (f := fun K => decide (PySem.W.mroIn K (He.ga K "BadCount") (.type "object") = some true)) rfl)
  have xC5Co : (PySem.W.clsIn K (He.ga K "BadCount")).isSome = true := (SaysB.ck c 161 (f := fun K => (PySem.W.clsIn K (He.ga K "BadCount")).isSome) rfl)
  have xkvCo : PySem.W.kitOne K (.ref (He.ga K "BadCount")) (.type "ValueError") = some true := of_decide_eq_true (SaysB.ck c 162 (f := fun K => decide (PySem.W.kitOne K (.ref (He.ga K "BadCount")) (.type "ValueError") = some true)) rfl)
  have gCLa : PySem.W.nsIn K mainGlobals "BadLabel" = some (some (.ref (He.ga K "BadLabel"))) := of_decide_eq_true (SaysB.ck c 163 (f := fun K => decide (PySem.W.nsIn K mainGlobals "BadLabel" = some (some (.ref (He.ga K "BadLabel"))))) rfl)
  obtain ⟨nmLa, qLa, NLa, bsLa, snLa, subLa, abLa, colLa, ddLa, maLa, mbLa, mcLa, mdLa, meLa, xLLa⟩ := excB_ok (SaysB.ck c 164 (f := fun K => excB K (He.ga K "BadLabel") [.type "ValueError", .type "Exception", .type "BaseException", .type "object"] "ValueError.__new__") rfl)
  have xsaLa : PySem.W.findIn K (.ref (He.ga K "BadLabel")) "__setattr__" = some (some (.builtin "object.__setattr__")) := of_decide_eq_true (SaysB.ck c 165 (f := fun K => decide (PySem.W.findIn K (.ref (He.ga K "BadLabel")) "__setattr__" = some (some (.builtin "object.__setattr__")))) rfl)
  have xgaLa : PySem.W.findIn K (.ref (He.ga K "BadLabel")) "__getattribute__" = some (some (.builtin "BaseException.__getattribute__")) := of_decide_eq_true (SaysB.ck c 166 (f := fun K => decide (PySem.W.findIn K (.ref (He.ga K "BadLabel")) "__getattribute__" = some (some (.builtin "BaseException.__getattribute__")))) rfl)
  have xggLa : PySem.W.findIn K (.ref (He.ga K "BadLabel")) "__getattr__" = some none := of_decide_eq_true (SaysB.ck c 167 (f := fun K => decide (PySem.W.findIn K (.ref (He.ga K "BadLabel")) "__getattr__" = some none)) rfl)
  have xnbLa0 : PySem.W.findIn K (.ref (He.ga K "BadLabel")) "label" = some none := of_decide_eq_true (SaysB.ck c 168 (f := fun K => decide (PySem.W.findIn K (.ref (He.ga K "BadLabel")) "label" = some none)) rfl)
  have xvVLa : PySem.W.findCls K (.type "ValueError") (.type "type") "__init__" = some (.val (.builtin "ValueError.__init__")) := clsB_ok (SaysB.ck c 169 (f := fun K => clsB (PySem.W.findCls K (.type "ValueError") (.type "type") "__init__") "ValueError.__init__") rfl)
  have xkCLa : PySem.W.keepIn K (.ref (He.ga K "BadLabel")) = true := (SaysB.ck c 170 (f := fun K => PySem.W.keepIn K (.ref (He.ga K "BadLabel"))) rfl)
  have xeCLa : PySem.W.subIn K (.ref (He.ga K "BadLabel")) (.type "BaseException") = some true := of_decide_eq_true (SaysB.ck c 171 (f := fun K => decide (PySem.W.subIn K (.ref (He.ga K "BadLabel")) (.type "BaseException") = some true)) rfl)
  have xtCLa : PySem.W.typeIn K (.ref (He.ga K "BadLabel")) = some (.type "type") := of_decide_eq_true (SaysB.ck c 172 (f := fun K => decide (PySem.W.typeIn K (.ref (He.ga K "BadLabel")) = some (.type "type"))) rfl)
  have xhCLa : PySem.W.hasDictIn K (He.ga K "BadLabel") = true := (SaysB.ck c 173 (f := fun K => PySem.W.hasDictIn K (He.ga K "BadLabel")) rfl)
  have xteLa : PySem.W.exmOne K (.ref (He.ga K "BadLabel")) (.ref (He.ga K "BadLabel")) = some true := of_decide_eq_true (SaysB.ck c 174 (f := fun K => decide (PySem.W.exmOne K (.ref (He.ga K "BadLabel")) (.ref (He.ga K "BadLabel")) = some true)) rfl)
  have xC1La : PySem.W.findIn K (.ref (He.ga K "BadLabel")) "__class__" = some (some (.builtin "object.__class__")) := of_decide_eq_true (SaysB.ck c 175 (f := fun K => decide (PySem.W.findIn K (.ref (He.ga K "BadLabel")) "__class__" = some (some (.builtin "object.__class__")))) rfl)
  have xC4La : PySem.W.mroIn K (He.ga K "BadLabel") (.type "object") = some true := of_decide_eq_true (SaysB.ck c 176 (f := fun K => decide (PySem.W.mroIn K (He.ga K "BadLabel") (.type "object") = some true)) rfl)
  have xC5La : (PySem.W.clsIn K (He.ga K "BadLabel")).isSome = true := (SaysB.ck c 177 (f := fun K => (PySem.W.clsIn K (He.ga K "BadLabel")).isSome) rfl)
  have xkvLa : PySem.W.kitOne K (.ref (He.ga K "BadLabel")) (.type "ValueError") = some true := of_decide_eq_true (SaysB.ck c 178 (f := fun K => decide (PySem.W.kitOne K (.ref (He.ga K "BadLabel")) (.type "ValueError") = some true)) rfl)
  have gCWo : PySem.W.nsIn K mainGlobals "BadWord" = some (some (.ref (He.ga K "BadWord"))) := of_decide_eq_true (SaysB.ck c 179 (f := fun K => decide (PySem.W.nsIn K mainGlobals "BadWord" = some (some (.ref (He.ga K "BadWord"))))) rfl)
  obtain ⟨nmWo, qWo, NWo, bsWo, snWo, subWo, abWo, colWo, ddWo, maWo, mbWo, mcWo, mdWo, meWo, xLWo⟩ := excB_ok (SaysB.ck c 180 (f := fun K => excB K (He.ga K "BadWord") [.type "ValueError", .type "Exception", .type "BaseException", .type "object"] "ValueError.__new__") rfl)
  have xsaWo : PySem.W.findIn K (.ref (He.ga K "BadWord")) "__setattr__" = some (some (.builtin "object.__setattr__")) := of_decide_eq_true (SaysB.ck c 181 (f := fun K => decide (PySem.W.findIn K (.ref (He.ga K "BadWord")) "__setattr__" = some (some (.builtin "object.__setattr__")))) rfl)
  have xgaWo : PySem.W.findIn K (.ref (He.ga K "BadWord")) "__getattribute__" = some (some (.builtin "BaseException.__getattribute__")) := of_decide_eq_true (SaysB.ck c 182 (f := fun K => decide (PySem.W.findIn K (.ref (He.ga K "BadWord")) "__getattribute__" = some (some (.builtin "BaseException.__getattribute__")))) rfl)
  have xggWo : PySem.W.findIn K (.ref (He.ga K "BadWord")) "__getattr__" = some none := of_decide_eq_true (SaysB.ck c 183 (f := fun K => decide (PySem.W.findIn K (.ref (He.ga K "BadWord")) "__getattr__" = some none)) rfl)
  have xnbWo0 : PySem.W.findIn K (.ref (He.ga K "BadWord")) "word" = some none := of_decide_eq_true (SaysB.ck c 184 (f := fun K => decide (PySem.W.findIn K (.ref (He.ga K "BadWord")) "word" = some none)) rfl)
  have xvVWo : PySem.W.findCls K (.type "ValueError") (.type "type") "__init__" = some (.val (.builtin "ValueError.__init__")) := clsB_ok (SaysB.ck c 185 (f := fun K => clsB (PySem.W.findCls K (.type "ValueError") (.type "type") "__init__") "ValueError.__init__") rfl)
  have xkCWo : PySem.W.keepIn K (.ref (He.ga K "BadWord")) = true := (SaysB.ck c 186 (f := fun K => PySem.W.keepIn K (.ref (He.ga K "BadWord"))) rfl)
  have xeCWo : PySem.W.subIn K (.ref (He.ga K "BadWord")) (.type "BaseException") = some true := of_decide_eq_true (SaysB.ck c 187 (f := fun K => decide (PySem.W.subIn K (.ref (He.ga K "BadWord")) (.type "BaseException") = some true)) rfl)
  have xtCWo : PySem.W.typeIn K (.ref (He.ga K "BadWord")) = some (.type "type") := of_decide_eq_true (SaysB.ck c 188 (f := fun K => decide (PySem.W.typeIn K (.ref (He.ga K "BadWord")) = some (.type "type"))) rfl)
  have xhCWo : PySem.W.hasDictIn K (He.ga K "BadWord") = true := (SaysB.ck c 189 (f := fun K => PySem.W.hasDictIn K (He.ga K "BadWord")) rfl)
  have xteWo : PySem.W.exmOne K (.ref (He.ga K "BadWord")) (.ref (He.ga K "BadWord")) = some true := of_decide_eq_true (SaysB.ck c 190 (f := fun K => decide (PySem.W.exmOne K (.ref (He.ga K "BadWord")) (.ref (He.ga K "BadWord")) = some true)) rfl)
  have xC1Wo : PySem.W.findIn K (.ref (He.ga K "BadWord")) "__class__" = some (some (.builtin "object.__class__")) := of_decide_eq_true (SaysB.ck c 191 (f := fun K => decide (PySem.W.findIn K (.ref (He.ga K "BadWord")) "__class__" = some (some (.builtin "object.__class__")))) rfl)
  have xC4Wo : PySem.W.mroIn K (He.ga K "BadWord") (.type "object") = some true := of_decide_eq_true (SaysB.ck c 192 (f := fun K => decide (PySem.W.mroIn K (He.ga K "BadWord") (.type "object") = some true)) rfl)
  have xC5Wo : (PySem.W.clsIn K (He.ga K "BadWord")).isSome = true := (SaysB.ck c 193 (f := fun K => (PySem.W.clsIn K (He.ga K "BadWord")).isSome) rfl)
  have xkvWo : PySem.W.kitOne K (.ref (He.ga K "BadWord")) (.type "ValueError") = some true := of_decide_eq_true (SaysB.ck c 194 (f := fun K => decide (PySem.W.kitOne K (.ref (He.ga K "BadWord")) (.type "ValueError") = some true)) rfl)
  have gCRg : PySem.W.nsIn K mainGlobals "Registered" = some (some (.ref (He.ga K "Registered"))) := of_decide_eq_true (SaysB.ck c 195 (f := fun K => decide (PySem.W.nsIn K mainGlobals "Registered" = some (some (.ref (He.ga K "Registered"))))) rfl)
  obtain ⟨nmRg, qRg, NRg, bsRg, snRg, subRg, abRg, colRg, ddRg, maRg, mbRg, mcRg, mdRg, meRg, xLRg⟩ := excB_ok (SaysB.ck c 196 (f := fun K => excB K (He.ga K "Registered") [.type "RuntimeError", .type "Exception", .type "BaseException", .type "object"] "RuntimeError.__new__") rfl)
  have xsaRg : PySem.W.findIn K (.ref (He.ga K "Registered")) "__setattr__" = some (some (.builtin "object.__setattr__")) := of_decide_eq_true (SaysB.ck c 197 (f := fun K => decide (PySem.W.findIn K (.ref (He.ga K "Registered")) "__setattr__" = some (some (.builtin "object.__setattr__")))) rfl)
  have xgaRg : PySem.W.findIn K (.ref (He.ga K "Registered")) "__getattribute__" = some (some (.builtin "BaseException.__getattribute__")) := of_decide_eq_true (SaysB.ck c 198 (f := fun K => decide (PySem.W.findIn K (.ref (He.ga K "Registered")) "__getattribute__" = some (some (.builtin "BaseException.__getattribute__")))) rfl)
  have xggRg : PySem.W.findIn K (.ref (He.ga K "Registered")) "__getattr__" = some none := of_decide_eq_true (SaysB.ck c 199 (f := fun K => decide (PySem.W.findIn K (.ref (He.ga K "Registered")) "__getattr__" = some none)) rfl)
  have xnbRg0 : PySem.W.findIn K (.ref (He.ga K "Registered")) "number" = some none := of_decide_eq_true (SaysB.ck c 200 (f := fun K => decide (PySem.W.findIn K (.ref (He.ga K "Registered")) "number" = some none)) rfl)
  have xvVRg : PySem.W.findCls K (.type "RuntimeError") (.type "type") "__init__" = some (.val (.builtin "RuntimeError.__init__")) := clsB_ok (SaysB.ck c 201 (f := fun K => clsB (PySem.W.findCls K (.type "RuntimeError") (.type "type") "__init__") "RuntimeError.__init__") rfl)
  have xkCRg : PySem.W.keepIn K (.ref (He.ga K "Registered")) = true := (SaysB.ck c 202 (f := fun K => PySem.W.keepIn K (.ref (He.ga K "Registered"))) rfl)
  have xeCRg : PySem.W.subIn K (.ref (He.ga K "Registered")) (.type "BaseException") = some true := of_decide_eq_true (SaysB.ck c 203 (f := fun K => decide (PySem.W.subIn K (.ref (He.ga K "Registered")) (.type "BaseException") = some true)) rfl)
  have xtCRg : PySem.W.typeIn K (.ref (He.ga K "Registered")) = some (.type "type") := of_decide_eq_true (SaysB.ck c 204 (f := fun K => decide (PySem.W.typeIn K (.ref (He.ga K "Registered")) = some (.type "type"))) rfl)
  have xhCRg : PySem.W.hasDictIn K (He.ga K "Registered") = true := (SaysB.ck c 205 (f := fun K => PySem.W.hasDictIn K (He.ga K "Registered")) rfl)
  have xteRg : PySem.W.exmOne K (.ref (He.ga K "Registered")) (.ref (He.ga K "Registered")) = some true := of_decide_eq_true (SaysB.ck c 206 (f := fun K => decide (PySem.W.exmOne K (.ref (He.ga K "Registered")) (.ref (He.ga K "Registered")) = some true)) rfl)
  have xC1Rg : PySem.W.findIn K (.ref (He.ga K "Registered")) "__class__" = some (some (.builtin "object.__class__")) := of_decide_eq_true (SaysB.ck c 207 (f := fun K => decide (PySem.W.findIn K (.ref (He.ga K "Registered")) "__class__" = some (some (.builtin "object.__class__")))) rfl)
  have xC4Rg : PySem.W.mroIn K (He.ga K "Registered") (.type "object") = some true := of_decide_eq_true (SaysB.ck c 208 (f := fun K => decide (PySem.W.mroIn K (He.ga K "Registered") (.type "object") = some true)) rfl)
  have xC5Rg : (PySem.W.clsIn K (He.ga K "Registered")).isSome = true := (SaysB.ck c 209 (f := fun K => (PySem.W.clsIn K (He.ga K "Registered")).isSome) rfl)
  have xkvRg : PySem.W.kitOne K (.ref (He.ga K "Registered")) (.type "RuntimeError") = some true := of_decide_eq_true (SaysB.ck c 210 (f := fun K => decide (PySem.W.kitOne K (.ref (He.ga K "Registered")) (.type "RuntimeError") = some true)) rfl)
  have gCTa : PySem.W.nsIn K mainGlobals "Taken" = some (some (.ref (He.ga K "Taken"))) := of_decide_eq_true (SaysB.ck c 211 (f := fun K => decide (PySem.W.nsIn K mainGlobals "Taken" = some (some (.ref (He.ga K "Taken"))))) rfl)
  obtain ⟨nmTa, qTa, NTa, bsTa, snTa, subTa, abTa, colTa, ddTa, maTa, mbTa, mcTa, mdTa, meTa, xLTa⟩ := excB_ok (SaysB.ck c 212 (f := fun K => excB K (He.ga K "Taken") [.type "RuntimeError", .type "Exception", .type "BaseException", .type "object"] "RuntimeError.__new__") rfl)
  have xsaTa : PySem.W.findIn K (.ref (He.ga K "Taken")) "__setattr__" = some (some (.builtin "object.__setattr__")) := of_decide_eq_true (SaysB.ck c 213 (f := fun K => decide (PySem.W.findIn K (.ref (He.ga K "Taken")) "__setattr__" = some (some (.builtin "object.__setattr__")))) rfl)
  have xgaTa : PySem.W.findIn K (.ref (He.ga K "Taken")) "__getattribute__" = some (some (.builtin "BaseException.__getattribute__")) := of_decide_eq_true (SaysB.ck c 214 (f := fun K => decide (PySem.W.findIn K (.ref (He.ga K "Taken")) "__getattribute__" = some (some (.builtin "BaseException.__getattribute__")))) rfl)
  have xggTa : PySem.W.findIn K (.ref (He.ga K "Taken")) "__getattr__" = some none := of_decide_eq_true (SaysB.ck c 215 (f := fun K => decide (PySem.W.findIn K (.ref (He.ga K "Taken")) "__getattr__" = some none)) rfl)
  have xnbTa0 : PySem.W.findIn K (.ref (He.ga K "Taken")) "label" = some none := of_decide_eq_true (SaysB.ck c 216 (f := fun K => decide (PySem.W.findIn K (.ref (He.ga K "Taken")) "label" = some none)) rfl)
  have xvVTa : PySem.W.findCls K (.type "RuntimeError") (.type "type") "__init__" = some (.val (.builtin "RuntimeError.__init__")) := clsB_ok (SaysB.ck c 217 (f := fun K => clsB (PySem.W.findCls K (.type "RuntimeError") (.type "type") "__init__") "RuntimeError.__init__") rfl)
  have xkCTa : PySem.W.keepIn K (.ref (He.ga K "Taken")) = true := (SaysB.ck c 218 (f := fun K => PySem.W.keepIn K (.ref (He.ga K "Taken"))) rfl)
  have xeCTa : PySem.W.subIn K (.ref (He.ga K "Taken")) (.type "BaseException") = some true := of_decide_eq_true (SaysB.ck c 219 (f := fun K => decide (PySem.W.subIn K (.ref (He.ga K "Taken")) (.type "BaseException") = some true)) rfl)
  have xtCTa : PySem.W.typeIn K (.ref (He.ga K "Taken")) = some (.type "type") := of_decide_eq_true (SaysB.ck c 220 (f := fun K => decide (PySem.W.typeIn K (.ref (He.ga K "Taken")) = some (.type "type"))) rfl)
  have xhCTa : PySem.W.hasDictIn K (He.ga K "Taken") = true := (SaysB.ck c 221 (f := fun K => PySem.W.hasDictIn K (He.ga K "Taken")) rfl)
  have xteTa : PySem.W.exmOne K (.ref (He.ga K "Taken")) (.ref (He.ga K "Taken")) = some true := of_decide_eq_true (SaysB.ck c 222 (f := fun K => decide (PySem.W.exmOne K (.ref (He.ga K "Taken")) (.ref (He.ga K "Taken")) = some true)) rfl)
  have xC1Ta : PySem.W.findIn K (.ref (He.ga K "Taken")) "__class__" = some (some (.builtin "object.__class__")) := of_decide_eq_true (SaysB.ck c 223 (f := fun K => decide (PySem.W.findIn K (.ref (He.ga K "Taken")) "__class__" = some (some (.builtin "object.__class__")))) rfl)
  have xC4Ta : PySem.W.mroIn K (He.ga K "Taken") (.type "object") = some true := of_decide_eq_true (SaysB.ck c 224 (f := fun K => decide (PySem.W.mroIn K (He.ga K "Taken") (.type "object") = some true)) rfl)
  have xC5Ta : (PySem.W.clsIn K (He.ga K "Taken")).isSome = true := (SaysB.ck c 225 (f := fun K => (PySem.W.clsIn K (He.ga K "Taken")).isSome) rfl)
  have xkvTa : PySem.W.kitOne K (.ref (He.ga K "Taken")) (.type "RuntimeError") = some true := of_decide_eq_true (SaysB.ck c 226 (f := fun K => decide (PySem.W.kitOne K (.ref (He.ga K "Taken")) (.type "RuntimeError") = some true)) rfl)
  have aint : PySem.W.nsIn K mainGlobals "is_integer" = some (some (.ref (He.ga K "is_integer"))) := of_decide_eq_true (SaysB.ck c 227 (f := fun K => decide (PySem.W.nsIn K mainGlobals "is_integer" = some (some (.ref (He.ga K "is_integer"))))) rfl)
  have kint : PySem.W.keepIn K (.ref (He.ga K "is_integer")) = true := (SaysB.ck c 228 (f := fun K => PySem.W.keepIn K (.ref (He.ga K "is_integer"))) rfl)
  obtain ⟨fd_int, F0int⟩ := SaysB.def_ c 0 (d := (⟨("is_integer", none), "is_integer", "is_integer", defArgs sIsInteger, defBody sIsInteger, defScope sIsInteger, [], []⟩ : He.DefD)) rfl
  have abet : PySem.W.nsIn K mainGlobals "is_between" = some (some (.ref (He.ga K "is_between"))) := of_decide_eq_true (SaysB.ck c 229 (f := fun K => decide (PySem.W.nsIn K mainGlobals "is_between" = some (some (.ref (He.ga K "is_between"))))) rfl)
  have kbet : PySem.W.keepIn K (.ref (He.ga K "is_between")) = true := (SaysB.ck c 230 (f := fun K => PySem.W.keepIn K (.ref (He.ga K "is_between"))) rfl)
  obtain ⟨fd_bet, F0bet⟩ := SaysB.def_ c 1 (d := (⟨("is_between", none), "is_between", "is_between", defArgs sIsBetween, defBody sIsBetween, defScope sIsBetween, [], []⟩ : He.DefD)) rfl
  have alab : PySem.W.nsIn K mainGlobals "is_label" = some (some (.ref (He.ga K "is_label"))) := of_decide_eq_true (SaysB.ck c 231 (f := fun K => decide (PySem.W.nsIn K mainGlobals "is_label" = some (some (.ref (He.ga K "is_label"))))) rfl)
  have klab : PySem.W.keepIn K (.ref (He.ga K "is_label")) = true := (SaysB.ck c 232 (f := fun K => PySem.W.keepIn K (.ref (He.ga K "is_label"))) rfl)
  obtain ⟨fd_lab, F0lab⟩ := SaysB.def_ c 2 (d := (⟨("is_label", none), "is_label", "is_label", defArgs sIsLabel, defBody sIsLabel, defScope sIsLabel, [], []⟩ : He.DefD)) rfl
  have awrd : PySem.W.nsIn K mainGlobals "is_word" = some (some (.ref (He.ga K "is_word"))) := of_decide_eq_true (SaysB.ck c 233 (f := fun K => decide (PySem.W.nsIn K mainGlobals "is_word" = some (some (.ref (He.ga K "is_word"))))) rfl)
  have kwrd : PySem.W.keepIn K (.ref (He.ga K "is_word")) = true := (SaysB.ck c 234 (f := fun K => PySem.W.keepIn K (.ref (He.ga K "is_word"))) rfl)
  obtain ⟨fd_wrd, F0wrd⟩ := SaysB.def_ c 3 (d := (⟨("is_word", none), "is_word", "is_word", defArgs sIsWord, defBody sIsWord, defScope sIsWord, [], []⟩ : He.DefD)) rfl
  have asnm : PySem.W.nsIn K mainGlobals "set_named" = some (some (.ref (He.ga K "set_named"))) := of_decide_eq_true (SaysB.ck c 235 (f := fun K => decide (PySem.W.nsIn K mainGlobals "set_named" = some (some (.ref (He.ga K "set_named"))))) rfl)
  have ksnm : PySem.W.keepIn K (.ref (He.ga K "set_named")) = true := (SaysB.ck c 236 (f := fun K => PySem.W.keepIn K (.ref (He.ga K "set_named"))) rfl)
  obtain ⟨fd_snm, F0snm⟩ := SaysB.def_ c 4 (d := (⟨("set_named", none), "set_named", "set_named", defArgs sSetNamed, defBody sSetNamed, defScope sSetNamed, [], []⟩ : He.DefD)) rfl
  have arnm : PySem.W.nsIn K mainGlobals "registration_named" = some (some (.ref (He.ga K "registration_named"))) := of_decide_eq_true (SaysB.ck c 237 (f := fun K => decide (PySem.W.nsIn K mainGlobals "registration_named" = some (some (.ref (He.ga K "registration_named"))))) rfl)
  have krnm : PySem.W.keepIn K (.ref (He.ga K "registration_named")) = true := (SaysB.ck c 238 (f := fun K => PySem.W.keepIn K (.ref (He.ga K "registration_named"))) rfl)
  obtain ⟨fd_rnm, F0rnm⟩ := SaysB.def_ c 5 (d := (⟨("registration_named", none), "registration_named", "registration_named", defArgs sRegNamed, defBody sRegNamed, defScope sRegNamed, [], []⟩ : He.DefD)) rfl
  have ahld : PySem.W.nsIn K mainGlobals "are_held_together" = some (some (.ref (He.ga K "are_held_together"))) := of_decide_eq_true (SaysB.ck c 239 (f := fun K => decide (PySem.W.nsIn K mainGlobals "are_held_together" = some (some (.ref (He.ga K "are_held_together"))))) rfl)
  have khld : PySem.W.keepIn K (.ref (He.ga K "are_held_together")) = true := (SaysB.ck c 240 (f := fun K => PySem.W.keepIn K (.ref (He.ga K "are_held_together"))) rfl)
  obtain ⟨fd_hld, F0hld⟩ := SaysB.def_ c 6 (d := (⟨("are_held_together", none), "are_held_together", "are_held_together", defArgs sHeldTogether, defBody sHeldTogether, defScope sHeldTogether, [], []⟩ : He.DefD)) rfl
  have aisr : PySem.W.nsIn K mainGlobals "is_reached" = some (some (.ref (He.ga K "is_reached"))) := of_decide_eq_true (SaysB.ck c 241 (f := fun K => decide (PySem.W.nsIn K mainGlobals "is_reached" = some (some (.ref (He.ga K "is_reached"))))) rfl)
  have kisr : PySem.W.keepIn K (.ref (He.ga K "is_reached")) = true := (SaysB.ck c 242 (f := fun K => PySem.W.keepIn K (.ref (He.ga K "is_reached"))) rfl)
  obtain ⟨fd_isr, F0isr⟩ := SaysB.def_ c 7 (d := (⟨("is_reached", none), "is_reached", "is_reached", defArgs sIsReached, defBody sIsReached, defScope sIsReached, [], []⟩ : He.DefD)) rfl
  have aiss : PySem.W.nsIn K mainGlobals "is_sealed" = some (some (.ref (He.ga K "is_sealed"))) := of_decide_eq_true (SaysB.ck c 243 (f := fun K => decide (PySem.W.nsIn K mainGlobals "is_sealed" = some (some (.ref (He.ga K "is_sealed"))))) rfl)
  have kiss : PySem.W.keepIn K (.ref (He.ga K "is_sealed")) = true := (SaysB.ck c 244 (f := fun K => PySem.W.keepIn K (.ref (He.ga K "is_sealed"))) rfl)
  obtain ⟨fd_iss, F0iss⟩ := SaysB.def_ c 8 (d := (⟨("is_sealed", none), "is_sealed", "is_sealed", defArgs sIsSealed, defBody sIsSealed, defScope sIsSealed, [], []⟩ : He.DefD)) rfl
  have abag : PySem.W.nsIn K mainGlobals "_law_bag" = some (some (.ref (He.ga K "_law_bag"))) := of_decide_eq_true (SaysB.ck c 245 (f := fun K => decide (PySem.W.nsIn K mainGlobals "_law_bag" = some (some (.ref (He.ga K "_law_bag"))))) rfl)
  have kbag : PySem.W.keepIn K (.ref (He.ga K "_law_bag")) = true := (SaysB.ck c 246 (f := fun K => PySem.W.keepIn K (.ref (He.ga K "_law_bag"))) rfl)
  obtain ⟨fd_bag, F0bag⟩ := SaysB.def_ c 9 (d := (⟨("_law_bag", none), "_law_bag", "_law_bag", defArgs sBag, defBody sBag, defScope sBag, [], []⟩ : He.DefD)) rfl
  have atake : PySem.W.nsIn K mainGlobals "_law_take" = some (some (.ref (He.ga K "_law_take"))) := of_decide_eq_true (SaysB.ck c 247 (f := fun K => decide (PySem.W.nsIn K mainGlobals "_law_take" = some (some (.ref (He.ga K "_law_take"))))) rfl)
  have ktake : PySem.W.keepIn K (.ref (He.ga K "_law_take")) = true := (SaysB.ck c 248 (f := fun K => PySem.W.keepIn K (.ref (He.ga K "_law_take"))) rfl)
  obtain ⟨fd_take, F0take⟩ := SaysB.def_ c 10 (d := (⟨("_law_take", none), "_law_take", "_law_take", defArgs sTake, defBody sTake, defScope sTake, [], []⟩ : He.DefD)) rfl
  have aof : PySem.W.nsIn K mainGlobals "_law_of" = some (some (.ref (He.ga K "_law_of"))) := of_decide_eq_true (SaysB.ck c 249 (f := fun K => decide (PySem.W.nsIn K mainGlobals "_law_of" = some (some (.ref (He.ga K "_law_of"))))) rfl)
  have kof : PySem.W.keepIn K (.ref (He.ga K "_law_of")) = true := (SaysB.ck c 250 (f := fun K => PySem.W.keepIn K (.ref (He.ga K "_law_of"))) rfl)
  obtain ⟨fd_of, F0of⟩ := SaysB.def_ c 11 (d := (⟨("_law_of", none), "_law_of", "_law_of", defArgs sOf, defBody sOf, defScope sOf, [], []⟩ : He.DefD)) rfl
  have adue : PySem.W.nsIn K mainGlobals "_law_due" = some (some (.ref (He.ga K "_law_due"))) := of_decide_eq_true (SaysB.ck c 251 (f := fun K => decide (PySem.W.nsIn K mainGlobals "_law_due" = some (some (.ref (He.ga K "_law_due"))))) rfl)
  have kdue : PySem.W.keepIn K (.ref (He.ga K "_law_due")) = true := (SaysB.ck c 252 (f := fun K => PySem.W.keepIn K (.ref (He.ga K "_law_due"))) rfl)
  obtain ⟨fd_due, F0due⟩ := SaysB.def_ c 12 (d := (⟨("_law_due", none), "_law_due", "_law_due", defArgs sDue, defBody sDue, defScope sDue, [], []⟩ : He.DefD)) rfl
  have afnd : PySem.W.nsIn K mainGlobals "_law_found" = some (some (.ref (He.ga K "_law_found"))) := of_decide_eq_true (SaysB.ck c 253 (f := fun K => decide (PySem.W.nsIn K mainGlobals "_law_found" = some (some (.ref (He.ga K "_law_found"))))) rfl)
  have kfnd : PySem.W.keepIn K (.ref (He.ga K "_law_found")) = true := (SaysB.ck c 254 (f := fun K => PySem.W.keepIn K (.ref (He.ga K "_law_found"))) rfl)
  obtain ⟨fd_fnd, F0fnd⟩ := SaysB.def_ c 13 (d := (⟨("_law_found", none), "_law_found", "_law_found", defArgs sFound, defBody sFound, defScope sFound, [], []⟩ : He.DefD)) rfl
  have argt : PySem.W.nsIn K mainGlobals "_law_right" = some (some (.ref (He.ga K "_law_right"))) := of_decide_eq_true (SaysB.ck c 255 (f := fun K => decide (PySem.W.nsIn K mainGlobals "_law_right" = some (some (.ref (He.ga K "_law_right"))))) rfl)
  have krgt : PySem.W.keepIn K (.ref (He.ga K "_law_right")) = true := (SaysB.ck c 256 (f := fun K => PySem.W.keepIn K (.ref (He.ga K "_law_right"))) rfl)
  obtain ⟨fd_rgt, F0rgt⟩ := SaysB.def_ c 14 (d := (⟨("_law_right", none), "_law_right", "_law_right", defArgs sRight, defBody sRight, defScope sRight, [], []⟩ : He.DefD)) rfl
  have alaw : PySem.W.nsIn K mainGlobals "law" = some (some (.ref (He.ga K "law"))) := of_decide_eq_true (SaysB.ck c 257 (f := fun K => decide (PySem.W.nsIn K mainGlobals "law" = some (some (.ref (He.ga K "law"))))) rfl)
  have klaw : PySem.W.keepIn K (.ref (He.ga K "law")) = true := (SaysB.ck c 258 (f := fun K => PySem.W.keepIn K (.ref (He.ga K "law"))) rfl)
  obtain ⟨fd_law, F0law⟩ := SaysB.def_ c 15 (d := (⟨("law", none), "law", "law", defArgs sLaw, defBody sLaw, defScope sLaw, [], []⟩ : He.DefD)) rfl
  have axPr : PySem.W.findIn K (.ref (He.ga K "NoProcess")) "__init__" = some (some (.ref (He.ma K (He.ga K "NoProcess") "__init__"))) := of_decide_eq_true (SaysB.ck c 259 (f := fun K => decide (PySem.W.findIn K (.ref (He.ga K "NoProcess")) "__init__" = some (some (.ref (He.ma K (He.ga K "NoProcess") "__init__"))))) rfl)
  have ixPr : PySem.W.isFn K (.ref (He.ma K (He.ga K "NoProcess") "__init__")) = true := (SaysB.ck c 260 (f := fun K => PySem.W.isFn K (.ref (He.ma K (He.ga K "NoProcess") "__init__"))) rfl)
  have kxPr : PySem.W.keepIn K (.ref (He.ma K (He.ga K "NoProcess") "__init__")) = true := (SaysB.ck c 261 (f := fun K => PySem.W.keepIn K (.ref (He.ma K (He.ga K "NoProcess") "__init__"))) rfl)
  obtain ⟨fd_xPr, F0xPr⟩ := SaysB.def_ c 16 (d := (⟨("NoProcess", some "__init__"), "__init__", "NoProcess.__init__", defArgs sNoProcessInit, defBody sNoProcessInit, defScope sNoProcessInit, [], []⟩ : He.DefD)) rfl
  have axOp : PySem.W.findIn K (.ref (He.ga K "NotOpen")) "__init__" = some (some (.ref (He.ma K (He.ga K "NotOpen") "__init__"))) := of_decide_eq_true (SaysB.ck c 262 (f := fun K => decide (PySem.W.findIn K (.ref (He.ga K "NotOpen")) "__init__" = some (some (.ref (He.ma K (He.ga K "NotOpen") "__init__"))))) rfl)
  have ixOp : PySem.W.isFn K (.ref (He.ma K (He.ga K "NotOpen") "__init__")) = true := (SaysB.ck c 263 (f := fun K => PySem.W.isFn K (.ref (He.ma K (He.ga K "NotOpen") "__init__"))) rfl)
  have kxOp : PySem.W.keepIn K (.ref (He.ma K (He.ga K "NotOpen") "__init__")) = true := (SaysB.ck c 264 (f := fun K => PySem.W.keepIn K (.ref (He.ma K (He.ga K "NotOpen") "__init__"))) rfl)
  obtain ⟨fd_xOp, F0xOp⟩ := SaysB.def_ c 17 (d := (⟨("NotOpen", some "__init__"), "__init__", "NotOpen.__init__", defArgs sNotOpenInit, defBody sNotOpenInit, defScope sNotOpenInit, [], []⟩ : He.DefD)) rfl
  have axNu : PySem.W.findIn K (.ref (He.ga K "NoNumber")) "__init__" = some (some (.ref (He.ma K (He.ga K "NoNumber") "__init__"))) := of_decide_eq_true (SaysB.ck c 265 (f := fun K => decide (PySem.W.findIn K (.ref (He.ga K "NoNumber")) "__init__" = some (some (.ref (He.ma K (He.ga K "NoNumber") "__init__"))))) rfl)
  have ixNu : PySem.W.isFn K (.ref (He.ma K (He.ga K "NoNumber") "__init__")) = true := (SaysB.ck c 266 (f := fun K => PySem.W.isFn K (.ref (He.ma K (He.ga K "NoNumber") "__init__"))) rfl)
  have kxNu : PySem.W.keepIn K (.ref (He.ma K (He.ga K "NoNumber") "__init__")) = true := (SaysB.ck c 267 (f := fun K => PySem.W.keepIn K (.ref (He.ma K (He.ga K "NoNumber") "__init__"))) rfl)
  obtain ⟨fd_xNu, F0xNu⟩ := SaysB.def_ c 18 (d := (⟨("NoNumber", some "__init__"), "__init__", "NoNumber.__init__", defArgs sNoNumberInit, defBody sNoNumberInit, defScope sNoNumberInit, [], []⟩ : He.DefD)) rfl
  have axNs : PySem.W.findIn K (.ref (He.ga K "NotASource")) "__init__" = some (some (.ref (He.ma K (He.ga K "NotASource") "__init__"))) := of_decide_eq_true (SaysB.ck c 268 (f := fun K => decide (PySem.W.findIn K (.ref (He.ga K "NotASource")) "__init__" = some (some (.ref (He.ma K (He.ga K "NotASource") "__init__"))))) rfl)
  have ixNs : PySem.W.isFn K (.ref (He.ma K (He.ga K "NotASource") "__init__")) = true := (SaysB.ck c 269 (f := fun K => PySem.W.isFn K (.ref (He.ma K (He.ga K "NotASource") "__init__"))) rfl)
  have kxNs : PySem.W.keepIn K (.ref (He.ma K (He.ga K "NotASource") "__init__")) = true := (SaysB.ck c 270 (f := fun K => PySem.W.keepIn K (.ref (He.ma K (He.ga K "NotASource") "__init__"))) rfl)
  obtain ⟨fd_xNs, F0xNs⟩ := SaysB.def_ c 19 (d := (⟨("NotASource", some "__init__"), "__init__", "NotASource.__init__", defArgs sNotASourceInit, defBody sNotASourceInit, defScope sNotASourceInit, [], []⟩ : He.DefD)) rfl
  have axNt : PySem.W.findIn K (.ref (He.ga K "NotASet")) "__init__" = some (some (.ref (He.ma K (He.ga K "NotASet") "__init__"))) := of_decide_eq_true (SaysB.ck c 271 (f := fun K => decide (PySem.W.findIn K (.ref (He.ga K "NotASet")) "__init__" = some (some (.ref (He.ma K (He.ga K "NotASet") "__init__"))))) rfl)
  have ixNt : PySem.W.isFn K (.ref (He.ma K (He.ga K "NotASet") "__init__")) = true := (SaysB.ck c 272 (f := fun K => PySem.W.isFn K (.ref (He.ma K (He.ga K "NotASet") "__init__"))) rfl)
  have kxNt : PySem.W.keepIn K (.ref (He.ma K (He.ga K "NotASet") "__init__")) = true := (SaysB.ck c 273 (f := fun K => PySem.W.keepIn K (.ref (He.ma K (He.ga K "NotASet") "__init__"))) rfl)
  obtain ⟨fd_xNt, F0xNt⟩ := SaysB.def_ c 20 (d := (⟨("NotASet", some "__init__"), "__init__", "NotASet.__init__", defArgs sNotASetInit, defBody sNotASetInit, defScope sNotASetInit, [], []⟩ : He.DefD)) rfl
  have axFu : PySem.W.findIn K (.ref (He.ga K "Full")) "__init__" = some (some (.ref (He.ma K (He.ga K "Full") "__init__"))) := of_decide_eq_true (SaysB.ck c 274 (f := fun K => decide (PySem.W.findIn K (.ref (He.ga K "Full")) "__init__" = some (some (.ref (He.ma K (He.ga K "Full") "__init__"))))) rfl)
  have ixFu : PySem.W.isFn K (.ref (He.ma K (He.ga K "Full") "__init__")) = true := (SaysB.ck c 275 (f := fun K => PySem.W.isFn K (.ref (He.ma K (He.ga K "Full") "__init__"))) rfl)
  have kxFu : PySem.W.keepIn K (.ref (He.ma K (He.ga K "Full") "__init__")) = true := (SaysB.ck c 276 (f := fun K => PySem.W.keepIn K (.ref (He.ma K (He.ga K "Full") "__init__"))) rfl)
  obtain ⟨fd_xFu, F0xFu⟩ := SaysB.def_ c 21 (d := (⟨("Full", some "__init__"), "__init__", "Full.__init__", defArgs sFullInit, defBody sFullInit, defScope sFullInit, [], []⟩ : He.DefD)) rfl
  have axNo : PySem.W.findIn K (.ref (He.ga K "NoRoom")) "__init__" = some (some (.ref (He.ma K (He.ga K "NoRoom") "__init__"))) := of_decide_eq_true (SaysB.ck c 277 (f := fun K => decide (PySem.W.findIn K (.ref (He.ga K "NoRoom")) "__init__" = some (some (.ref (He.ma K (He.ga K "NoRoom") "__init__"))))) rfl)
  have ixNo : PySem.W.isFn K (.ref (He.ma K (He.ga K "NoRoom") "__init__")) = true := (SaysB.ck c 278 (f := fun K => PySem.W.isFn K (.ref (He.ma K (He.ga K "NoRoom") "__init__"))) rfl)
  have kxNo : PySem.W.keepIn K (.ref (He.ma K (He.ga K "NoRoom") "__init__")) = true := (SaysB.ck c 279 (f := fun K => PySem.W.keepIn K (.ref (He.ma K (He.ga K "NoRoom") "__init__"))) rfl)
  obtain ⟨fd_xNo, F0xNo⟩ := SaysB.def_ c 22 (d := (⟨("NoRoom", some "__init__"), "__init__", "NoRoom.__init__", defArgs sNoRoomInit, defBody sNoRoomInit, defScope sNoRoomInit, [], []⟩ : He.DefD)) rfl
  have axCo : PySem.W.findIn K (.ref (He.ga K "BadCount")) "__init__" = some (some (.ref (He.ma K (He.ga K "BadCount") "__init__"))) := of_decide_eq_true (SaysB.ck c 280 (f := fun K => decide (PySem.W.findIn K (.ref (He.ga K "BadCount")) "__init__" = some (some (.ref (He.ma K (He.ga K "BadCount") "__init__"))))) rfl)
  have ixCo : PySem.W.isFn K (.ref (He.ma K (He.ga K "BadCount") "__init__")) = true := (SaysB.ck c 281 (f := fun K => PySem.W.isFn K (.ref (He.ma K (He.ga K "BadCount") "__init__"))) rfl)
  have kxCo : PySem.W.keepIn K (.ref (He.ma K (He.ga K "BadCount") "__init__")) = true := (SaysB.ck c 282 (f := fun K => PySem.W.keepIn K (.ref (He.ma K (He.ga K "BadCount") "__init__"))) rfl)
  obtain ⟨fd_xCo, F0xCo⟩ := SaysB.def_ c 23 (d := (⟨("BadCount", some "__init__"), "__init__", "BadCount.__init__", defArgs sBadCountInit, defBody sBadCountInit, defScope sBadCountInit, [], []⟩ : He.DefD)) rfl
  have axLa : PySem.W.findIn K (.ref (He.ga K "BadLabel")) "__init__" = some (some (.ref (He.ma K (He.ga K "BadLabel") "__init__"))) := of_decide_eq_true (SaysB.ck c 283 (f := fun K => decide (PySem.W.findIn K (.ref (He.ga K "BadLabel")) "__init__" = some (some (.ref (He.ma K (He.ga K "BadLabel") "__init__"))))) rfl)
  have ixLa : PySem.W.isFn K (.ref (He.ma K (He.ga K "BadLabel") "__init__")) = true := (SaysB.ck c 284 (f := fun K => PySem.W.isFn K (.ref (He.ma K (He.ga K "BadLabel") "__init__"))) rfl)
  have kxLa : PySem.W.keepIn K (.ref (He.ma K (He.ga K "BadLabel") "__init__")) = true := (SaysB.ck c 285 (f := fun K => PySem.W.keepIn K (.ref (He.ma K (He.ga K "BadLabel") "__init__"))) rfl)
  obtain ⟨fd_xLa, F0xLa⟩ := SaysB.def_ c 24 (d := (⟨("BadLabel", some "__init__"), "__init__", "BadLabel.__init__", defArgs sBadLabelInit, defBody sBadLabelInit, defScope sBadLabelInit, [], []⟩ : He.DefD)) rfl
  have axWo : PySem.W.findIn K (.ref (He.ga K "BadWord")) "__init__" = some (some (.ref (He.ma K (He.ga K "BadWord") "__init__"))) := of_decide_eq_true (SaysB.ck c 286 (f := fun K => decide (PySem.W.findIn K (.ref (He.ga K "BadWord")) "__init__" = some (some (.ref (He.ma K (He.ga K "BadWord") "__init__"))))) rfl)
  have ixWo : PySem.W.isFn K (.ref (He.ma K (He.ga K "BadWord") "__init__")) = true := (SaysB.ck c 287 (f := fun K => PySem.W.isFn K (.ref (He.ma K (He.ga K "BadWord") "__init__"))) rfl)
  have kxWo : PySem.W.keepIn K (.ref (He.ma K (He.ga K "BadWord") "__init__")) = true := (SaysB.ck c 288 (f := fun K => PySem.W.keepIn K (.ref (He.ma K (He.ga K "BadWord") "__init__"))) rfl)
  obtain ⟨fd_xWo, F0xWo⟩ := SaysB.def_ c 25 (d := (⟨("BadWord", some "__init__"), "__init__", "BadWord.__init__", defArgs sBadWordInit, defBody sBadWordInit, defScope sBadWordInit, [], []⟩ : He.DefD)) rfl
  have axRg : PySem.W.findIn K (.ref (He.ga K "Registered")) "__init__" = some (some (.ref (He.ma K (He.ga K "Registered") "__init__"))) := of_decide_eq_true (SaysB.ck c 289 (f := fun K => decide (PySem.W.findIn K (.ref (He.ga K "Registered")) "__init__" = some (some (.ref (He.ma K (He.ga K "Registered") "__init__"))))) rfl)
  have ixRg : PySem.W.isFn K (.ref (He.ma K (He.ga K "Registered") "__init__")) = true := (SaysB.ck c 290 (f := fun K => PySem.W.isFn K (.ref (He.ma K (He.ga K "Registered") "__init__"))) rfl)
  have kxRg : PySem.W.keepIn K (.ref (He.ma K (He.ga K "Registered") "__init__")) = true := (SaysB.ck c 291 (f := fun K => PySem.W.keepIn K (.ref (He.ma K (He.ga K "Registered") "__init__"))) rfl)
  obtain ⟨fd_xRg, F0xRg⟩ := SaysB.def_ c 26 (d := (⟨("Registered", some "__init__"), "__init__", "Registered.__init__", defArgs sRegisteredInit, defBody sRegisteredInit, defScope sRegisteredInit, [], []⟩ : He.DefD)) rfl
  have axTa : PySem.W.findIn K (.ref (He.ga K "Taken")) "__init__" = some (some (.ref (He.ma K (He.ga K "Taken") "__init__"))) := of_decide_eq_true (SaysB.ck c 292 (f := fun K => decide (PySem.W.findIn K (.ref (He.ga K "Taken")) "__init__" = some (some (.ref (He.ma K (He.ga K "Taken") "__init__"))))) rfl)
  have ixTa : PySem.W.isFn K (.ref (He.ma K (He.ga K "Taken") "__init__")) = true := (SaysB.ck c 293 (f := fun K => PySem.W.isFn K (.ref (He.ma K (He.ga K "Taken") "__init__"))) rfl)
  have kxTa : PySem.W.keepIn K (.ref (He.ma K (He.ga K "Taken") "__init__")) = true := (SaysB.ck c 294 (f := fun K => PySem.W.keepIn K (.ref (He.ma K (He.ga K "Taken") "__init__"))) rfl)
  obtain ⟨fd_xTa, F0xTa⟩ := SaysB.def_ c 27 (d := (⟨("Taken", some "__init__"), "__init__", "Taken.__init__", defArgs sTakenInit, defBody sTakenInit, defScope sTakenInit, [], []⟩ : He.DefD)) rfl
  have ari : PySem.W.findIn K (.ref (He.ga K "Registration")) "__init__" = some (some (.ref (He.ma K (He.ga K "Registration") "__init__"))) := of_decide_eq_true (SaysB.ck c 295 (f := fun K => decide (PySem.W.findIn K (.ref (He.ga K "Registration")) "__init__" = some (some (.ref (He.ma K (He.ga K "Registration") "__init__"))))) rfl)
  have iri : PySem.W.isFn K (.ref (He.ma K (He.ga K "Registration") "__init__")) = true := (SaysB.ck c 296 (f := fun K => PySem.W.isFn K (.ref (He.ma K (He.ga K "Registration") "__init__"))) rfl)
  have kri : PySem.W.keepIn K (.ref (He.ma K (He.ga K "Registration") "__init__")) = true := (SaysB.ck c 297 (f := fun K => PySem.W.keepIn K (.ref (He.ma K (He.ga K "Registration") "__init__"))) rfl)
  obtain ⟨fd_ri, F0ri⟩ := SaysB.def_ c 28 (d := (⟨("Registration", some "__init__"), "__init__", "Registration.__init__", defArgs sRegInit, defBody sRegInit, defScope sRegInit, [], []⟩ : He.DefD)) rfl
  have awi : PySem.W.findIn K (.ref (He.ga K "WaitingSet")) "__init__" = some (some (.ref (He.ma K (He.ga K "WaitingSet") "__init__"))) := of_decide_eq_true (SaysB.ck c 298 (f := fun K => decide (PySem.W.findIn K (.ref (He.ga K "WaitingSet")) "__init__" = some (some (.ref (He.ma K (He.ga K "WaitingSet") "__init__"))))) rfl)
  have iwi : PySem.W.isFn K (.ref (He.ma K (He.ga K "WaitingSet") "__init__")) = true := (SaysB.ck c 299 (f := fun K => PySem.W.isFn K (.ref (He.ma K (He.ga K "WaitingSet") "__init__"))) rfl)
  have kwi : PySem.W.keepIn K (.ref (He.ma K (He.ga K "WaitingSet") "__init__")) = true := (SaysB.ck c 300 (f := fun K => PySem.W.keepIn K (.ref (He.ma K (He.ga K "WaitingSet") "__init__"))) rfl)
  obtain ⟨fd_wi, F0wi⟩ := SaysB.def_ c 29 (d := (⟨("WaitingSet", some "__init__"), "__init__", "WaitingSet.__init__", defArgs sWsInit, defBody sWsInit, defScope sWsInit, [], []⟩ : He.DefD)) rfl
  have alof : PySem.W.findIn K (.ref (He.ga K "WaitingSet")) "label_of" = some (some (.ref (He.ma K (He.ga K "WaitingSet") "label_of"))) := of_decide_eq_true (SaysB.ck c 301 (f := fun K => decide (PySem.W.findIn K (.ref (He.ga K "WaitingSet")) "label_of" = some (some (.ref (He.ma K (He.ga K "WaitingSet") "label_of"))))) rfl)
  have ilof : PySem.W.isFn K (.ref (He.ma K (He.ga K "WaitingSet") "label_of")) = true := (SaysB.ck c 302 (f := fun K => PySem.W.isFn K (.ref (He.ma K (He.ga K "WaitingSet") "label_of"))) rfl)
  have klof : PySem.W.keepIn K (.ref (He.ma K (He.ga K "WaitingSet") "label_of")) = true := (SaysB.ck c 303 (f := fun K => PySem.W.keepIn K (.ref (He.ma K (He.ga K "WaitingSet") "label_of"))) rfl)
  obtain ⟨fd_lof, F0lof⟩ := SaysB.def_ c 30 (d := (⟨("WaitingSet", some "label_of"), "label_of", "WaitingSet.label_of", defArgs sLabelOf, defBody sLabelOf, defScope sLabelOf, [], []⟩ : He.DefD)) rfl
  have aput : PySem.W.findIn K (.ref (He.ga K "WaitingSet")) "put" = some (some (.ref (He.ma K (He.ga K "WaitingSet") "put"))) := of_decide_eq_true (SaysB.ck c 304 (f := fun K => decide (PySem.W.findIn K (.ref (He.ga K "WaitingSet")) "put" = some (some (.ref (He.ma K (He.ga K "WaitingSet") "put"))))) rfl)
  have iput : PySem.W.isFn K (.ref (He.ma K (He.ga K "WaitingSet") "put")) = true := (SaysB.ck c 305 (f := fun K => PySem.W.isFn K (.ref (He.ma K (He.ga K "WaitingSet") "put"))) rfl)
  have kput : PySem.W.keepIn K (.ref (He.ma K (He.ga K "WaitingSet") "put")) = true := (SaysB.ck c 306 (f := fun K => PySem.W.keepIn K (.ref (He.ma K (He.ga K "WaitingSet") "put"))) rfl)
  obtain ⟨fd_put, F0put⟩ := SaysB.def_ c 31 (d := (⟨("WaitingSet", some "put"), "put", "WaitingSet.put", defArgs sPut, defBody sPut, defScope sPut, [], []⟩ : He.DefD)) rfl
  have aapp : PySem.W.findIn K (.ref (He.ga K "WaitingSet")) "append_pending" = some (some (.ref (He.ma K (He.ga K "WaitingSet") "append_pending"))) := of_decide_eq_true (SaysB.ck c 307 (f := fun K => decide (PySem.W.findIn K (.ref (He.ga K "WaitingSet")) "append_pending" = some (some (.ref (He.ma K (He.ga K "WaitingSet") "append_pending"))))) rfl)
  have iapp : PySem.W.isFn K (.ref (He.ma K (He.ga K "WaitingSet") "append_pending")) = true := (SaysB.ck c 308 (f := fun K => PySem.W.isFn K (.ref (He.ma K (He.ga K "WaitingSet") "append_pending"))) rfl)
  have kapp : PySem.W.keepIn K (.ref (He.ma K (He.ga K "WaitingSet") "append_pending")) = true := (SaysB.ck c 309 (f := fun K => PySem.W.keepIn K (.ref (He.ma K (He.ga K "WaitingSet") "append_pending"))) rfl)
  obtain ⟨fd_app, F0app⟩ := SaysB.def_ c 32 (d := (⟨("WaitingSet", some "append_pending"), "append_pending", "WaitingSet.append_pending", defArgs sAppend, defBody sAppend, defScope sAppend, [], []⟩ : He.DefD)) rfl
  have adrp : PySem.W.findIn K (.ref (He.ga K "WaitingSet")) "drop" = some (some (.ref (He.ma K (He.ga K "WaitingSet") "drop"))) := of_decide_eq_true (SaysB.ck c 310 (f := fun K => decide (PySem.W.findIn K (.ref (He.ga K "WaitingSet")) "drop" = some (some (.ref (He.ma K (He.ga K "WaitingSet") "drop"))))) rfl)
  have idrp : PySem.W.isFn K (.ref (He.ma K (He.ga K "WaitingSet") "drop")) = true := (SaysB.ck c 311 (f := fun K => PySem.W.isFn K (.ref (He.ma K (He.ga K "WaitingSet") "drop"))) rfl)
  have kdrp : PySem.W.keepIn K (.ref (He.ma K (He.ga K "WaitingSet") "drop")) = true := (SaysB.ck c 312 (f := fun K => PySem.W.keepIn K (.ref (He.ma K (He.ga K "WaitingSet") "drop"))) rfl)
  obtain ⟨fd_drp, F0drp⟩ := SaysB.def_ c 33 (d := (⟨("WaitingSet", some "drop"), "drop", "WaitingSet.drop", defArgs sDrop, defBody sDrop, defScope sDrop, [], []⟩ : He.DefD)) rfl
  have adso : PySem.W.findIn K (.ref (He.ga K "WaitingSet")) "drop_source" = some (some (.ref (He.ma K (He.ga K "WaitingSet") "drop_source"))) := of_decide_eq_true (SaysB.ck c 313 (f := fun K => decide (PySem.W.findIn K (.ref (He.ga K "WaitingSet")) "drop_source" = some (some (.ref (He.ma K (He.ga K "WaitingSet") "drop_source"))))) rfl)
  have idso : PySem.W.isFn K (.ref (He.ma K (He.ga K "WaitingSet") "drop_source")) = true := (SaysB.ck c 314 (f := fun K => PySem.W.isFn K (.ref (He.ma K (He.ga K "WaitingSet") "drop_source"))) rfl)
  have kdso : PySem.W.keepIn K (.ref (He.ma K (He.ga K "WaitingSet") "drop_source")) = true := (SaysB.ck c 315 (f := fun K => PySem.W.keepIn K (.ref (He.ma K (He.ga K "WaitingSet") "drop_source"))) rfl)
  obtain ⟨fd_dso, F0dso⟩ := SaysB.def_ c 34 (d := (⟨("WaitingSet", some "drop_source"), "drop_source", "WaitingSet.drop_source", defArgs sDropSource, defBody sDropSource, defScope sDropSource, [], []⟩ : He.DefD)) rfl
  have asi : PySem.W.findIn K (.ref (He.ga K "System")) "__init__" = some (some (.ref (He.ma K (He.ga K "System") "__init__"))) := of_decide_eq_true (SaysB.ck c 316 (f := fun K => decide (PySem.W.findIn K (.ref (He.ga K "System")) "__init__" = some (some (.ref (He.ma K (He.ga K "System") "__init__"))))) rfl)
  have isi : PySem.W.isFn K (.ref (He.ma K (He.ga K "System") "__init__")) = true := (SaysB.ck c 317 (f := fun K => PySem.W.isFn K (.ref (He.ma K (He.ga K "System") "__init__"))) rfl)
  have ksi : PySem.W.keepIn K (.ref (He.ma K (He.ga K "System") "__init__")) = true := (SaysB.ck c 318 (f := fun K => PySem.W.keepIn K (.ref (He.ma K (He.ga K "System") "__init__"))) rfl)
  obtain ⟨fd_si, F0si⟩ := SaysB.def_ c 35 (d := (⟨("System", some "__init__"), "__init__", "System.__init__", defArgs sSysInit, defBody sSysInit, defScope sSysInit, [], [("processes", .int 4), ("numbers", .int 8)]⟩ : He.DefD)) rfl
  have acon : PySem.W.findIn K (.ref (He.ga K "System")) "__contains__" = some (some (.ref (He.ma K (He.ga K "System") "__contains__"))) := of_decide_eq_true (SaysB.ck c 319 (f := fun K => decide (PySem.W.findIn K (.ref (He.ga K "System")) "__contains__" = some (some (.ref (He.ma K (He.ga K "System") "__contains__"))))) rfl)
  have icon : PySem.W.isFn K (.ref (He.ma K (He.ga K "System") "__contains__")) = true := (SaysB.ck c 320 (f := fun K => PySem.W.isFn K (.ref (He.ma K (He.ga K "System") "__contains__"))) rfl)
  have kcon : PySem.W.keepIn K (.ref (He.ma K (He.ga K "System") "__contains__")) = true := (SaysB.ck c 321 (f := fun K => PySem.W.keepIn K (.ref (He.ma K (He.ga K "System") "__contains__"))) rfl)
  obtain ⟨fd_con, F0con⟩ := SaysB.def_ c 36 (d := (⟨("System", some "__contains__"), "__contains__", "System.__contains__", defArgs sContains, defBody sContains, defScope sContains, [], []⟩ : He.DefD)) rfl
  have atof : PySem.W.findIn K (.ref (He.ga K "System")) "table_of" = some (some (.ref (He.ma K (He.ga K "System") "table_of"))) := of_decide_eq_true (SaysB.ck c 322 (f := fun K => decide (PySem.W.findIn K (.ref (He.ga K "System")) "table_of" = some (some (.ref (He.ma K (He.ga K "System") "table_of"))))) rfl)
  have itof : PySem.W.isFn K (.ref (He.ma K (He.ga K "System") "table_of")) = true := (SaysB.ck c 323 (f := fun K => PySem.W.isFn K (.ref (He.ma K (He.ga K "System") "table_of"))) rfl)
  have ktof : PySem.W.keepIn K (.ref (He.ma K (He.ga K "System") "table_of")) = true := (SaysB.ck c 324 (f := fun K => PySem.W.keepIn K (.ref (He.ma K (He.ga K "System") "table_of"))) rfl)
  obtain ⟨fd_tof, F0tof⟩ := SaysB.def_ c 37 (d := (⟨("System", some "table_of"), "table_of", "System.table_of", defArgs sTableOf, defBody sTableOf, defScope sTableOf, [], []⟩ : He.DefD)) rfl
  have aitn : PySem.W.findIn K (.ref (He.ga K "System")) "is_table_number" = some (some (.ref (He.ma K (He.ga K "System") "is_table_number"))) := of_decide_eq_true (SaysB.ck c 325 (f := fun K => decide (PySem.W.findIn K (.ref (He.ga K "System")) "is_table_number" = some (some (.ref (He.ma K (He.ga K "System") "is_table_number"))))) rfl)
  have iitn : PySem.W.isFn K (.ref (He.ma K (He.ga K "System") "is_table_number")) = true := (SaysB.ck c 326 (f := fun K => PySem.W.isFn K (.ref (He.ma K (He.ga K "System") "is_table_number"))) rfl)
  have kitn : PySem.W.keepIn K (.ref (He.ma K (He.ga K "System") "is_table_number")) = true := (SaysB.ck c 327 (f := fun K => PySem.W.keepIn K (.ref (He.ma K (He.ga K "System") "is_table_number"))) rfl)
  obtain ⟨fd_itn, F0itn⟩ := SaysB.def_ c 38 (d := (⟨("System", some "is_table_number"), "is_table_number", "System.is_table_number", defArgs sIsTabNum, defBody sIsTabNum, defScope sIsTabNum, [], []⟩ : He.DefD)) rfl
  have atha : PySem.W.findIn K (.ref (He.ga K "System")) "thing_at" = some (some (.ref (He.ma K (He.ga K "System") "thing_at"))) := of_decide_eq_true (SaysB.ck c 328 (f := fun K => decide (PySem.W.findIn K (.ref (He.ga K "System")) "thing_at" = some (some (.ref (He.ma K (He.ga K "System") "thing_at"))))) rfl)
  have itha : PySem.W.isFn K (.ref (He.ma K (He.ga K "System") "thing_at")) = true := (SaysB.ck c 329 (f := fun K => PySem.W.isFn K (.ref (He.ma K (He.ga K "System") "thing_at"))) rfl)
  have ktha : PySem.W.keepIn K (.ref (He.ma K (He.ga K "System") "thing_at")) = true := (SaysB.ck c 330 (f := fun K => PySem.W.keepIn K (.ref (He.ma K (He.ga K "System") "thing_at"))) rfl)
  obtain ⟨fd_tha, F0tha⟩ := SaysB.def_ c 39 (d := (⟨("System", some "thing_at"), "thing_at", "System.thing_at", defArgs sThingAt, defBody sThingAt, defScope sThingAt, [], []⟩ : He.DefD)) rfl
  have asra : PySem.W.findIn K (.ref (He.ga K "System")) "source_at" = some (some (.ref (He.ma K (He.ga K "System") "source_at"))) := of_decide_eq_true (SaysB.ck c 331 (f := fun K => decide (PySem.W.findIn K (.ref (He.ga K "System")) "source_at" = some (some (.ref (He.ma K (He.ga K "System") "source_at"))))) rfl)
  have isra : PySem.W.isFn K (.ref (He.ma K (He.ga K "System") "source_at")) = true := (SaysB.ck c 332 (f := fun K => PySem.W.isFn K (.ref (He.ma K (He.ga K "System") "source_at"))) rfl)
  have ksra : PySem.W.keepIn K (.ref (He.ma K (He.ga K "System") "source_at")) = true := (SaysB.ck c 333 (f := fun K => PySem.W.keepIn K (.ref (He.ma K (He.ga K "System") "source_at"))) rfl)
  obtain ⟨fd_sra, F0sra⟩ := SaysB.def_ c 40 (d := (⟨("System", some "source_at"), "source_at", "System.source_at", defArgs sSourceAt, defBody sSourceAt, defScope sSourceAt, [], []⟩ : He.DefD)) rfl
  have asta : PySem.W.findIn K (.ref (He.ga K "System")) "set_at" = some (some (.ref (He.ma K (He.ga K "System") "set_at"))) := of_decide_eq_true (SaysB.ck c 334 (f := fun K => decide (PySem.W.findIn K (.ref (He.ga K "System")) "set_at" = some (some (.ref (He.ma K (He.ga K "System") "set_at"))))) rfl)
  have ista : PySem.W.isFn K (.ref (He.ma K (He.ga K "System") "set_at")) = true := (SaysB.ck c 335 (f := fun K => PySem.W.isFn K (.ref (He.ma K (He.ga K "System") "set_at"))) rfl)
  have ksta : PySem.W.keepIn K (.ref (He.ma K (He.ga K "System") "set_at")) = true := (SaysB.ck c 336 (f := fun K => PySem.W.keepIn K (.ref (He.ma K (He.ga K "System") "set_at"))) rfl)
  obtain ⟨fd_sta, F0sta⟩ := SaysB.def_ c 41 (d := (⟨("System", some "set_at"), "set_at", "System.set_at", defArgs sSetAt, defBody sSetAt, defScope sSetAt, [], []⟩ : He.DefD)) rfl
  have afrn : PySem.W.findIn K (.ref (He.ga K "System")) "free_number" = some (some (.ref (He.ma K (He.ga K "System") "free_number"))) := of_decide_eq_true (SaysB.ck c 337 (f := fun K => decide (PySem.W.findIn K (.ref (He.ga K "System")) "free_number" = some (some (.ref (He.ma K (He.ga K "System") "free_number"))))) rfl)
  have ifrn : PySem.W.isFn K (.ref (He.ma K (He.ga K "System") "free_number")) = true := (SaysB.ck c 338 (f := fun K => PySem.W.isFn K (.ref (He.ma K (He.ga K "System") "free_number"))) rfl)
  have kfrn : PySem.W.keepIn K (.ref (He.ma K (He.ga K "System") "free_number")) = true := (SaysB.ck c 339 (f := fun K => PySem.W.keepIn K (.ref (He.ma K (He.ga K "System") "free_number"))) rfl)
  obtain ⟨fd_frn, F0frn⟩ := SaysB.def_ c 42 (d := (⟨("System", some "free_number"), "free_number", "System.free_number", defArgs sFreeNum, defBody sFreeNum, defScope sFreeNum, [], []⟩ : He.DefD)) rfl
  have anth : PySem.W.findIn K (.ref (He.ga K "System")) "new_thing" = some (some (.ref (He.ma K (He.ga K "System") "new_thing"))) := of_decide_eq_true (SaysB.ck c 340 (f := fun K => decide (PySem.W.findIn K (.ref (He.ga K "System")) "new_thing" = some (some (.ref (He.ma K (He.ga K "System") "new_thing"))))) rfl)
  have inth : PySem.W.isFn K (.ref (He.ma K (He.ga K "System") "new_thing")) = true := (SaysB.ck c 341 (f := fun K => PySem.W.isFn K (.ref (He.ma K (He.ga K "System") "new_thing"))) rfl)
  have knth : PySem.W.keepIn K (.ref (He.ma K (He.ga K "System") "new_thing")) = true := (SaysB.ck c 342 (f := fun K => PySem.W.keepIn K (.ref (He.ma K (He.ga K "System") "new_thing"))) rfl)
  obtain ⟨fd_nth, F0nth⟩ := SaysB.def_ c 43 (d := (⟨("System", some "new_thing"), "new_thing", "System.new_thing", defArgs sNewThing, defBody sNewThing, defScope sNewThing, [], []⟩ : He.DefD)) rfl
  have anso : PySem.W.findIn K (.ref (He.ga K "System")) "new_source" = some (some (.ref (He.ma K (He.ga K "System") "new_source"))) := of_decide_eq_true (SaysB.ck c 343 (f := fun K => decide (PySem.W.findIn K (.ref (He.ga K "System")) "new_source" = some (some (.ref (He.ma K (He.ga K "System") "new_source"))))) rfl)
  have inso : PySem.W.isFn K (.ref (He.ma K (He.ga K "System") "new_source")) = true := (SaysB.ck c 344 (f := fun K => PySem.W.isFn K (.ref (He.ma K (He.ga K "System") "new_source"))) rfl)
  have knso : PySem.W.keepIn K (.ref (He.ma K (He.ga K "System") "new_source")) = true := (SaysB.ck c 345 (f := fun K => PySem.W.keepIn K (.ref (He.ma K (He.ga K "System") "new_source"))) rfl)
  obtain ⟨fd_nso, F0nso⟩ := SaysB.def_ c 44 (d := (⟨("System", some "new_source"), "new_source", "System.new_source", defArgs sNewSource, defBody sNewSource, defScope sNewSource, [], []⟩ : He.DefD)) rfl
  have anse : PySem.W.findIn K (.ref (He.ga K "System")) "new_set" = some (some (.ref (He.ma K (He.ga K "System") "new_set"))) := of_decide_eq_true (SaysB.ck c 346 (f := fun K => decide (PySem.W.findIn K (.ref (He.ga K "System")) "new_set" = some (some (.ref (He.ma K (He.ga K "System") "new_set"))))) rfl)
  have inse : PySem.W.isFn K (.ref (He.ma K (He.ga K "System") "new_set")) = true := (SaysB.ck c 347 (f := fun K => PySem.W.isFn K (.ref (He.ma K (He.ga K "System") "new_set"))) rfl)
  have knse : PySem.W.keepIn K (.ref (He.ma K (He.ga K "System") "new_set")) = true := (SaysB.ck c 348 (f := fun K => PySem.W.keepIn K (.ref (He.ma K (He.ga K "System") "new_set"))) rfl)
  obtain ⟨fd_nse, F0nse⟩ := SaysB.def_ c 45 (d := (⟨("System", some "new_set"), "new_set", "System.new_set", defArgs sNewSet, defBody sNewSet, defScope sNewSet, [], []⟩ : He.DefD)) rfl
  have ardy : PySem.W.findIn K (.ref (He.ga K "System")) "is_ready" = some (some (.ref (He.ma K (He.ga K "System") "is_ready"))) := of_decide_eq_true (SaysB.ck c 349 (f := fun K => decide (PySem.W.findIn K (.ref (He.ga K "System")) "is_ready" = some (some (.ref (He.ma K (He.ga K "System") "is_ready"))))) rfl)
  have irdy : PySem.W.isFn K (.ref (He.ma K (He.ga K "System") "is_ready")) = true := (SaysB.ck c 350 (f := fun K => PySem.W.isFn K (.ref (He.ma K (He.ga K "System") "is_ready"))) rfl)
  have krdy : PySem.W.keepIn K (.ref (He.ma K (He.ga K "System") "is_ready")) = true := (SaysB.ck c 351 (f := fun K => PySem.W.keepIn K (.ref (He.ma K (He.ga K "System") "is_ready"))) rfl)
  obtain ⟨fd_rdy, F0rdy⟩ := SaysB.def_ c 46 (d := (⟨("System", some "is_ready"), "is_ready", "System.is_ready", defArgs sIsReady, defBody sIsReady, defScope sIsReady, [], []⟩ : He.DefD)) rfl
  have aetg : PySem.W.findIn K (.ref (He.ga K "System")) "end_thing" = some (some (.ref (He.ma K (He.ga K "System") "end_thing"))) := of_decide_eq_true (SaysB.ck c 352 (f := fun K => decide (PySem.W.findIn K (.ref (He.ga K "System")) "end_thing" = some (some (.ref (He.ma K (He.ga K "System") "end_thing"))))) rfl)
  have ietg : PySem.W.isFn K (.ref (He.ma K (He.ga K "System") "end_thing")) = true := (SaysB.ck c 353 (f := fun K => PySem.W.isFn K (.ref (He.ma K (He.ga K "System") "end_thing"))) rfl)
  have ketg : PySem.W.keepIn K (.ref (He.ma K (He.ga K "System") "end_thing")) = true := (SaysB.ck c 354 (f := fun K => PySem.W.keepIn K (.ref (He.ma K (He.ga K "System") "end_thing"))) rfl)
  obtain ⟨fd_etg, F0etg⟩ := SaysB.def_ c 47 (d := (⟨("System", some "end_thing"), "end_thing", "System.end_thing", defArgs sEndThing, defBody sEndThing, defScope sEndThing, [], []⟩ : He.DefD)) rfl
  have aadd : PySem.W.findIn K (.ref (He.ga K "System")) "add" = some (some (.ref (He.ma K (He.ga K "System") "add"))) := of_decide_eq_true (SaysB.ck c 355 (f := fun K => decide (PySem.W.findIn K (.ref (He.ga K "System")) "add" = some (some (.ref (He.ma K (He.ga K "System") "add"))))) rfl)
  have iadd : PySem.W.isFn K (.ref (He.ma K (He.ga K "System") "add")) = true := (SaysB.ck c 356 (f := fun K => PySem.W.isFn K (.ref (He.ma K (He.ga K "System") "add"))) rfl)
  have kadd : PySem.W.keepIn K (.ref (He.ma K (He.ga K "System") "add")) = true := (SaysB.ck c 357 (f := fun K => PySem.W.keepIn K (.ref (He.ma K (He.ga K "System") "add"))) rfl)
  obtain ⟨fd_add, F0add⟩ := SaysB.def_ c 48 (d := (⟨("System", some "add"), "add", "System.add", defArgs sAdd, defBody sAdd, defScope sAdd, [], [("word", .str "level")]⟩ : He.DefD)) rfl
  have afre : PySem.W.findIn K (.ref (He.ga K "System")) "free" = some (some (.ref (He.ma K (He.ga K "System") "free"))) := of_decide_eq_true (SaysB.ck c 358 (f := fun K => decide (PySem.W.findIn K (.ref (He.ga K "System")) "free" = some (some (.ref (He.ma K (He.ga K "System") "free"))))) rfl)
  have ifre : PySem.W.isFn K (.ref (He.ma K (He.ga K "System") "free")) = true := (SaysB.ck c 359 (f := fun K => PySem.W.isFn K (.ref (He.ma K (He.ga K "System") "free"))) rfl)
  have kfre : PySem.W.keepIn K (.ref (He.ma K (He.ga K "System") "free")) = true := (SaysB.ck c 360 (f := fun K => PySem.W.keepIn K (.ref (He.ma K (He.ga K "System") "free"))) rfl)
  obtain ⟨fd_fre, F0fre⟩ := SaysB.def_ c 49 (d := (⟨("System", some "free"), "free", "System.free", defArgs sFree, defBody sFree, defScope sFree, [], []⟩ : He.DefD)) rfl
  have aclo : PySem.W.findIn K (.ref (He.ga K "System")) "close" = some (some (.ref (He.ma K (He.ga K "System") "close"))) := of_decide_eq_true (SaysB.ck c 361 (f := fun K => decide (PySem.W.findIn K (.ref (He.ga K "System")) "close" = some (some (.ref (He.ma K (He.ga K "System") "close"))))) rfl)
  have iclo : PySem.W.isFn K (.ref (He.ma K (He.ga K "System") "close")) = true := (SaysB.ck c 362 (f := fun K => PySem.W.isFn K (.ref (He.ma K (He.ga K "System") "close"))) rfl)
  have kclo : PySem.W.keepIn K (.ref (He.ma K (He.ga K "System") "close")) = true := (SaysB.ck c 363 (f := fun K => PySem.W.keepIn K (.ref (He.ma K (He.ga K "System") "close"))) rfl)
  obtain ⟨fd_clo, F0clo⟩ := SaysB.def_ c 50 (d := (⟨("System", some "close"), "close", "System.close", defArgs sClose, defBody sClose, defScope sClose, [], []⟩ : He.DefD)) rfl
  have acpy : PySem.W.findIn K (.ref (He.ga K "System")) "copy" = some (some (.ref (He.ma K (He.ga K "System") "copy"))) := of_decide_eq_true (SaysB.ck c 364 (f := fun K => decide (PySem.W.findIn K (.ref (He.ga K "System")) "copy" = some (some (.ref (He.ma K (He.ga K "System") "copy"))))) rfl)
  have icpy : PySem.W.isFn K (.ref (He.ma K (He.ga K "System") "copy")) = true := (SaysB.ck c 365 (f := fun K => PySem.W.isFn K (.ref (He.ma K (He.ga K "System") "copy"))) rfl)
  have kcpy : PySem.W.keepIn K (.ref (He.ma K (He.ga K "System") "copy")) = true := (SaysB.ck c 366 (f := fun K => PySem.W.keepIn K (.ref (He.ma K (He.ga K "System") "copy"))) rfl)
  obtain ⟨fd_cpy, F0cpy⟩ := SaysB.def_ c 51 (d := (⟨("System", some "copy"), "copy", "System.copy", defArgs sCopy, defBody sCopy, defScope sCopy, [.non], []⟩ : He.DefD)) rfl
  have afrp : PySem.W.findIn K (.ref (He.ga K "System")) "free_process" = some (some (.ref (He.ma K (He.ga K "System") "free_process"))) := of_decide_eq_true (SaysB.ck c 367 (f := fun K => decide (PySem.W.findIn K (.ref (He.ga K "System")) "free_process" = some (some (.ref (He.ma K (He.ga K "System") "free_process"))))) rfl)
  have ifrp : PySem.W.isFn K (.ref (He.ma K (He.ga K "System") "free_process")) = true := (SaysB.ck c 368 (f := fun K => PySem.W.isFn K (.ref (He.ma K (He.ga K "System") "free_process"))) rfl)
  have kfrp : PySem.W.keepIn K (.ref (He.ma K (He.ga K "System") "free_process")) = true := (SaysB.ck c 369 (f := fun K => PySem.W.keepIn K (.ref (He.ma K (He.ga K "System") "free_process"))) rfl)
  obtain ⟨fd_frp, F0frp⟩ := SaysB.def_ c 52 (d := (⟨("System", some "free_process"), "free_process", "System.free_process", defArgs sFreeProc, defBody sFreeProc, defScope sFreeProc, [], []⟩ : He.DefD)) rfl
  have afrk : PySem.W.findIn K (.ref (He.ga K "System")) "fork" = some (some (.ref (He.ma K (He.ga K "System") "fork"))) := of_decide_eq_true (SaysB.ck c 370 (f := fun K => decide (PySem.W.findIn K (.ref (He.ga K "System")) "fork" = some (some (.ref (He.ma K (He.ga K "System") "fork"))))) rfl)
  have ifrk : PySem.W.isFn K (.ref (He.ma K (He.ga K "System") "fork")) = true := (SaysB.ck c 371 (f := fun K => PySem.W.isFn K (.ref (He.ma K (He.ga K "System") "fork"))) rfl)
  have kfrk : PySem.W.keepIn K (.ref (He.ma K (He.ga K "System") "fork")) = true := (SaysB.ck c 372 (f := fun K => PySem.W.keepIn K (.ref (He.ma K (He.ga K "System") "fork"))) rfl)
  obtain ⟨fd_frk, F0frk⟩ := SaysB.def_ c 53 (d := (⟨("System", some "fork"), "fork", "System.fork", defArgs sFork, defBody sFork, defScope sFork, [], []⟩ : He.DefD)) rfl
  have atng : PySem.W.findIn K (.ref (He.ga K "System")) "things" = some (some (.ref (He.ma K (He.ga K "System") "things"))) := of_decide_eq_true (SaysB.ck c 373 (f := fun K => decide (PySem.W.findIn K (.ref (He.ga K "System")) "things" = some (some (.ref (He.ma K (He.ga K "System") "things"))))) rfl)
  have itng : PySem.W.isFn K (.ref (He.ma K (He.ga K "System") "things")) = true := (SaysB.ck c 374 (f := fun K => PySem.W.isFn K (.ref (He.ma K (He.ga K "System") "things"))) rfl)
  have ktng : PySem.W.keepIn K (.ref (He.ma K (He.ga K "System") "things")) = true := (SaysB.ck c 375 (f := fun K => PySem.W.keepIn K (.ref (He.ma K (He.ga K "System") "things"))) rfl)
  obtain ⟨fd_tng, F0tng⟩ := SaysB.def_ c 54 (d := (⟨("System", some "things"), "things", "System.things", defArgs sThings, defBody sThings, defScope sThings, [], []⟩ : He.DefD)) rfl
  have anof : PySem.W.findIn K (.ref (He.ga K "System")) "numbers_of" = some (some (.ref (He.ma K (He.ga K "System") "numbers_of"))) := of_decide_eq_true (SaysB.ck c 376 (f := fun K => decide (PySem.W.findIn K (.ref (He.ga K "System")) "numbers_of" = some (some (.ref (He.ma K (He.ga K "System") "numbers_of"))))) rfl)
  have inof : PySem.W.isFn K (.ref (He.ma K (He.ga K "System") "numbers_of")) = true := (SaysB.ck c 377 (f := fun K => PySem.W.isFn K (.ref (He.ma K (He.ga K "System") "numbers_of"))) rfl)
  have knof : PySem.W.keepIn K (.ref (He.ma K (He.ga K "System") "numbers_of")) = true := (SaysB.ck c 378 (f := fun K => PySem.W.keepIn K (.ref (He.ma K (He.ga K "System") "numbers_of"))) rfl)
  obtain ⟨fd_nof, F0nof⟩ := SaysB.def_ c 55 (d := (⟨("System", some "numbers_of"), "numbers_of", "System.numbers_of", defArgs sNumbersOf, defBody sNumbersOf, defScope sNumbersOf, [], []⟩ : He.DefD)) rfl
  have anam : PySem.W.findIn K (.ref (He.ga K "System")) "name_of" = some (some (.ref (He.ma K (He.ga K "System") "name_of"))) := of_decide_eq_true (SaysB.ck c 379 (f := fun K => decide (PySem.W.findIn K (.ref (He.ga K "System")) "name_of" = some (some (.ref (He.ma K (He.ga K "System") "name_of"))))) rfl)
  have inam : PySem.W.isFn K (.ref (He.ma K (He.ga K "System") "name_of")) = true := (SaysB.ck c 380 (f := fun K => PySem.W.isFn K (.ref (He.ma K (He.ga K "System") "name_of"))) rfl)
  have knam : PySem.W.keepIn K (.ref (He.ma K (He.ga K "System") "name_of")) = true := (SaysB.ck c 381 (f := fun K => PySem.W.keepIn K (.ref (He.ma K (He.ga K "System") "name_of"))) rfl)
  obtain ⟨fd_nam, F0nam⟩ := SaysB.def_ c 56 (d := (⟨("System", some "name_of"), "name_of", "System.name_of", defArgs sNameOf, defBody sNameOf, defScope sNameOf, [], []⟩ : He.DefD)) rfl
  have areg : PySem.W.findIn K (.ref (He.ga K "System")) "registrations" = some (some (.ref (He.ma K (He.ga K "System") "registrations"))) := of_decide_eq_true (SaysB.ck c 382 (f := fun K => decide (PySem.W.findIn K (.ref (He.ga K "System")) "registrations" = some (some (.ref (He.ma K (He.ga K "System") "registrations"))))) rfl)
  have ireg : PySem.W.isFn K (.ref (He.ma K (He.ga K "System") "registrations")) = true := (SaysB.ck c 383 (f := fun K => PySem.W.isFn K (.ref (He.ma K (He.ga K "System") "registrations"))) rfl)
  have kreg : PySem.W.keepIn K (.ref (He.ma K (He.ga K "System") "registrations")) = true := (SaysB.ck c 384 (f := fun K => PySem.W.keepIn K (.ref (He.ma K (He.ga K "System") "registrations"))) rfl)
  obtain ⟨fd_reg, F0reg⟩ := SaysB.def_ c 57 (d := (⟨("System", some "registrations"), "registrations", "System.registrations", defArgs sRegistrations, defBody sRegistrations, defScope sRegistrations, [], []⟩ : He.DefD)) rfl
  have xtIPr : PySem.W.typeIn K (.ref (He.ma K (He.ga K "NoProcess") "__init__")) = some (.type "function") := of_decide_eq_true (SaysB.ck c 385 (f := fun K => decide (PySem.W.typeIn K (.ref (He.ma K (He.ga K "NoProcess") "__init__")) = some (.type "function"))) rfl)
  have xtIOp : PySem.W.typeIn K (.ref (He.ma K (He.ga K "NotOpen") "__init__")) = some (.type "function") := of_decide_eq_true (SaysB.ck c 386 (f := fun K => decide (PySem.W.typeIn K (.ref (He.ma K (He.ga K "NotOpen") "__init__")) = some (.type "function"))) rfl)
  have xtINu : PySem.W.typeIn K (.ref (He.ma K (He.ga K "NoNumber") "__init__")) = some (.type "function") := of_decide_eq_true (SaysB.ck c 387 (f := fun K => decide (PySem.W.typeIn K (.ref (He.ma K (He.ga K "NoNumber") "__init__")) = some (.type "function"))) rfl)
  have xtINs : PySem.W.typeIn K (.ref (He.ma K (He.ga K "NotASource") "__init__")) = some (.type "function") := of_decide_eq_true (SaysB.ck c 388 (f := fun K => decide (PySem.W.typeIn K (.ref (He.ma K (He.ga K "NotASource") "__init__")) = some (.type "function"))) rfl)
  have xtINt : PySem.W.typeIn K (.ref (He.ma K (He.ga K "NotASet") "__init__")) = some (.type "function") := of_decide_eq_true (SaysB.ck c 389 (f := fun K => decide (PySem.W.typeIn K (.ref (He.ma K (He.ga K "NotASet") "__init__")) = some (.type "function"))) rfl)
  have xtIFu : PySem.W.typeIn K (.ref (He.ma K (He.ga K "Full") "__init__")) = some (.type "function") := of_decide_eq_true (SaysB.ck c 390 (f := fun K => decide (PySem.W.typeIn K (.ref (He.ma K (He.ga K "Full") "__init__")) = some (.type "function"))) rfl)
  have xtINo : PySem.W.typeIn K (.ref (He.ma K (He.ga K "NoRoom") "__init__")) = some (.type "function") := of_decide_eq_true (SaysB.ck c 391 (f := fun K => decide (PySem.W.typeIn K (.ref (He.ma K (He.ga K "NoRoom") "__init__")) = some (.type "function"))) rfl)
  have xtICo : PySem.W.typeIn K (.ref (He.ma K (He.ga K "BadCount") "__init__")) = some (.type "function") := of_decide_eq_true (SaysB.ck c 392 (f := fun K => decide (PySem.W.typeIn K (.ref (He.ma K (He.ga K "BadCount") "__init__")) = some (.type "function"))) rfl)
  have xtILa : PySem.W.typeIn K (.ref (He.ma K (He.ga K "BadLabel") "__init__")) = some (.type "function") := of_decide_eq_true (SaysB.ck c 393 (f := fun K => decide (PySem.W.typeIn K (.ref (He.ma K (He.ga K "BadLabel") "__init__")) = some (.type "function"))) rfl)
  have xtIWo : PySem.W.typeIn K (.ref (He.ma K (He.ga K "BadWord") "__init__")) = some (.type "function") := of_decide_eq_true (SaysB.ck c 394 (f := fun K => decide (PySem.W.typeIn K (.ref (He.ma K (He.ga K "BadWord") "__init__")) = some (.type "function"))) rfl)
  have xtIRg : PySem.W.typeIn K (.ref (He.ma K (He.ga K "Registered") "__init__")) = some (.type "function") := of_decide_eq_true (SaysB.ck c 395 (f := fun K => decide (PySem.W.typeIn K (.ref (He.ma K (He.ga K "Registered") "__init__")) = some (.type "function"))) rfl)
  have xtITa : PySem.W.typeIn K (.ref (He.ma K (He.ga K "Taken") "__init__")) = some (.type "function") := of_decide_eq_true (SaysB.ck c 396 (f := fun K => decide (PySem.W.typeIn K (.ref (He.ma K (He.ga K "Taken") "__init__")) = some (.type "function"))) rfl)
  have z_len : PySem.W.nsIn K mainGlobals "len" = some none := of_decide_eq_true (SaysB.ck c 397 (f := fun K => decide (PySem.W.nsIn K mainGlobals "len" = some none)) rfl)
  have z_enumerate : PySem.W.nsIn K mainGlobals "enumerate" = some none := of_decide_eq_true (SaysB.ck c 398 (f := fun K => decide (PySem.W.nsIn K mainGlobals "enumerate" = some none)) rfl)
  have z_int : PySem.W.nsIn K mainGlobals "int" = some none := of_decide_eq_true (SaysB.ck c 399 (f := fun K => decide (PySem.W.nsIn K mainGlobals "int" = some none)) rfl)
  have z_abs : PySem.W.nsIn K mainGlobals "abs" = some none := of_decide_eq_true (SaysB.ck c 400 (f := fun K => decide (PySem.W.nsIn K mainGlobals "abs" = some none)) rfl)
  have z_isinstance : PySem.W.nsIn K mainGlobals "isinstance" = some none := of_decide_eq_true (SaysB.ck c 401 (f := fun K => decide (PySem.W.nsIn K mainGlobals "isinstance" = some none)) rfl)
  have z_bool : PySem.W.nsIn K mainGlobals "bool" = some none := of_decide_eq_true (SaysB.ck c 402 (f := fun K => decide (PySem.W.nsIn K mainGlobals "bool" = some none)) rfl)
  have z_list : PySem.W.nsIn K mainGlobals "list" = some none := of_decide_eq_true (SaysB.ck c 403 (f := fun K => decide (PySem.W.nsIn K mainGlobals "list" = some none)) rfl)
  have z_min : PySem.W.nsIn K mainGlobals "min" = some none := of_decide_eq_true (SaysB.ck c 404 (f := fun K => decide (PySem.W.nsIn K mainGlobals "min" = some none)) rfl)
  have z_max : PySem.W.nsIn K mainGlobals "max" = some none := of_decide_eq_true (SaysB.ck c 405 (f := fun K => decide (PySem.W.nsIn K mainGlobals "max" = some none)) rfl)
  have z_range : PySem.W.nsIn K mainGlobals "range" = some none := of_decide_eq_true (SaysB.ck c 406 (f := fun K => decide (PySem.W.nsIn K mainGlobals "range" = some none)) rfl)
  have z_sorted : PySem.W.nsIn K mainGlobals "sorted" = some none := of_decide_eq_true (SaysB.ck c 407 (f := fun K => decide (PySem.W.nsIn K mainGlobals "sorted" = some none)) rfl)
  have z_any : PySem.W.nsIn K mainGlobals "any" = some none := of_decide_eq_true (SaysB.ck c 408 (f := fun K => decide (PySem.W.nsIn K mainGlobals "any" = some none)) rfl)
  have z_dict : PySem.W.nsIn K mainGlobals "dict" = some none := of_decide_eq_true (SaysB.ck c 409 (f := fun K => decide (PySem.W.nsIn K mainGlobals "dict" = some none)) rfl)
  have z_tuple : PySem.W.nsIn K mainGlobals "tuple" = some none := of_decide_eq_true (SaysB.ck c 410 (f := fun K => decide (PySem.W.nsIn K mainGlobals "tuple" = some none)) rfl)
  have z_LookupError : PySem.W.nsIn K mainGlobals "LookupError" = some none := of_decide_eq_true (SaysB.ck c 411 (f := fun K => decide (PySem.W.nsIn K mainGlobals "LookupError" = some none)) rfl)
  have z_RuntimeError : PySem.W.nsIn K mainGlobals "RuntimeError" = some none := of_decide_eq_true (SaysB.ck c 412 (f := fun K => decide (PySem.W.nsIn K mainGlobals "RuntimeError" = some none)) rfl)
  have z_TypeError : PySem.W.nsIn K mainGlobals "TypeError" = some none := of_decide_eq_true (SaysB.ck c 413 (f := fun K => decide (PySem.W.nsIn K mainGlobals "TypeError" = some none)) rfl)
  have z_ValueError : PySem.W.nsIn K mainGlobals "ValueError" = some none := of_decide_eq_true (SaysB.ck c 414 (f := fun K => decide (PySem.W.nsIn K mainGlobals "ValueError" = some none)) rfl)
  have z_OverflowError : PySem.W.nsIn K mainGlobals "OverflowError" = some none := of_decide_eq_true (SaysB.ck c 415 (f := fun K => decide (PySem.W.nsIn K mainGlobals "OverflowError" = some none)) rfl)
  have wA : PySem.W.nsIn K mainGlobals "WORDS" = some (some (.ref (He.ga K "WORDS"))) := of_decide_eq_true (SaysB.ck c 416 (f := fun K => decide (PySem.W.nsIn K mainGlobals "WORDS" = some (some (.ref (He.ga K "WORDS"))))) rfl)
  obtain ⟨dW, tW0, tW1, tW2, nW, sW, LW0⟩ := txtB_ok (SaysB.ck c 417 (f := fun K => txtB K (He.ga K "WORDS") "level" "edge" "once") rfl)
  obtain ⟨tMC, gMC⟩ := intB_ok (SaysB.ck c 418 (f := fun K => intB (PySem.W.nsIn K mainGlobals "MOST_COUNT") 1000000) rfl)
  obtain ⟨tML, gML⟩ := intB_ok (SaysB.ck c 419 (f := fun K => intB (PySem.W.nsIn K mainGlobals "MOST_LABEL") 999999) rfl)
  obtain ⟨tLP, gLP⟩ := intB_ok (SaysB.ck c 420 (f := fun K => intB (PySem.W.nsIn K mainGlobals "LEAST_PROCESSES") 2) rfl)
  obtain ⟨tLN, gLN⟩ := intB_ok (SaysB.ck c 421 (f := fun K => intB (PySem.W.nsIn K mainGlobals "LEAST_NUMBERS") 3) rfl)
  obtain ⟨tMP, gMP, sMP⟩ := atB_ok (SaysB.ck c 422 (f := fun K => atB K (PySem.W.findIn K (.ref (He.ga K "System")) "MOST_PROCESSES") 6) rfl)
  obtain ⟨tMN, gMN, sMN⟩ := atB_ok (SaysB.ck c 423 (f := fun K => atB K (PySem.W.findIn K (.ref (He.ga K "System")) "MOST_NUMBERS") 8) rfl)
  exact all_mk (w := w) X G hfa gCS pgS hdS poS saS mkS kcS noS0 noS1 noS2 noS3 noS4 noS5 gCW pgW hdW poW saW mkW kcW noW0 noW1 gCR pgR hdR poR saR mkR kcR noR0 noR1 noR2 noR3 nWR gCPr xLPr xsaPr xgaPr xggPr xnbPr0 xvVPr xkCPr xeCPr xtCPr xhCPr xtePr xC1Pr xC4Pr xC5Pr xkvPr xC2 xC3 gCOp xLOp xsaOp xgaOp xggOp xnbOp0 xvVOp xkCOp xeCOp xtCOp xhCOp xteOp xC1Op xC4Op xC5Op xkvOp gCNu xLNu xsaNu xgaNu xggNu xnbNu0 xvVNu xkCNu xeCNu xtCNu xhCNu xteNu xC1Nu xC4Nu xC5Nu xkvNu gCNs xLNs xsaNs xgaNs xggNs xnbNs0 xvVNs xkCNs xeCNs xtCNs xhCNs xteNs xC1Ns xC4Ns xC5Ns xkvNs gCNt xLNt xsaNt xgaNt xggNt xnbNt0 xvVNt xkCNt xeCNt xtCNt xhCNt xteNt xC1Nt xC4Nt xC5Nt xkvNt gCFu xLFu xsaFu xgaFu xggFu xnbFu0 xvVFu xkCFu xeCFu xtCFu xhCFu xteFu xC1Fu xC4Fu xC5Fu xkvFu gCNo xLNo xsaNo xgaNo xggNo xvVNo xkCNo xeCNo xtCNo xhCNo xteNo xC1No xC4No xC5No xkvNo gCCo xLCo xsaCo xgaCo xggCo xnbCo0 xvVCo xkCCo xeCCo xtCCo xhCCo xteCo xC1Co xC4Co xC5Co xkvCo gCLa xLLa xsaLa xgaLa xggLa xnbLa0 xvVLa xkCLa xeCLa xtCLa xhCLa xteLa xC1La xC4La xC5La xkvLa gCWo xLWo xsaWo xgaWo xggWo xnbWo0 xvVWo xkCWo xeCWo xtCWo xhCWo xteWo xC1Wo xC4Wo xC5Wo xkvWo gCRg xLRg xsaRg xgaRg xggRg xnbRg0 xvVRg xkCRg xeCRg xtCRg xhCRg xteRg xC1Rg xC4Rg xC5Rg xkvRg gCTa xLTa xsaTa xgaTa xggTa xnbTa0 xvVTa xkCTa xeCTa xtCTa xhCTa xteTa xC1Ta xC4Ta xC5Ta xkvTa aint kint F0int abet kbet F0bet alab klab F0lab awrd kwrd F0wrd asnm ksnm F0snm arnm krnm F0rnm ahld khld F0hld aisr kisr F0isr aiss kiss F0iss abag kbag F0bag atake ktake F0take aof kof F0of adue kdue F0due afnd kfnd F0fnd argt krgt F0rgt alaw klaw F0law axPr ixPr kxPr F0xPr axOp ixOp kxOp F0xOp axNu ixNu kxNu F0xNu axNs ixNs kxNs F0xNs axNt ixNt kxNt F0xNt axFu ixFu kxFu F0xFu axNo ixNo kxNo F0xNo axCo ixCo kxCo F0xCo axLa ixLa kxLa F0xLa axWo ixWo kxWo F0xWo axRg ixRg kxRg F0xRg axTa ixTa kxTa F0xTa ari iri kri F0ri awi iwi kwi F0wi alof ilof klof F0lof aput iput kput F0put aapp iapp kapp F0app adrp idrp kdrp F0drp adso idso kdso F0dso asi isi ksi F0si acon icon kcon F0con atof itof ktof F0tof aitn iitn kitn F0itn atha itha ktha F0tha asra isra ksra F0sra asta ista ksta F0sta afrn ifrn kfrn F0frn anth inth knth F0nth anso inso knso F0nso anse inse knse F0nse ardy irdy krdy F0rdy aetg ietg ketg F0etg aadd iadd kadd F0add afre ifre kfre F0fre aclo iclo kclo F0clo acpy icpy kcpy F0cpy afrp ifrp kfrp F0frp afrk ifrk kfrk F0frk atng itng ktng F0tng anof inof knof F0nof anam inam knam F0nam areg ireg kreg F0reg xtIPr xtIOp xtINu xtINs xtINt xtIFu xtINo xtICo xtILa xtIWo xtIRg xtITa z_len z_enumerate z_int z_abs z_isinstance z_bool z_list z_min z_max z_range z_sorted z_any z_dict z_tuple z_LookupError z_RuntimeError z_TypeError z_ValueError z_OverflowError wA LW0 gMC gML gLP gLN gMP sMP gMN sMN


end Wn
namespace Wn
open PySem PySem.Spec PyProof.Rows L2
end Wn
open PySem PySem.W PySem.Calls PyProof.Rows in
set_option maxRecDepth 100000 in
set_option maxHeartbeats 0 in
theorem PySem.Challenge.cw_waitnumbers_k60_registrations_left_behin_holds : PySem.Challenge.rw_waitnumbers_k60_registrations_left_behin.Holds := by
  w_on; o_law
  refine HandSHeadRun.head_any (r := OpenLaw.row PySem.Challenge.rw_waitnumbers_k60_registrations_left_behin) (q := view (OpenLaw.row PySem.Challenge.rw_waitnumbers_k60_registrations_left_behin).prog [45]) (H := Wn.hk) (ob := Wn.ob) (M := 9000) (loose := Wn.nmL) (d := HandSHeadRun.topDef (OpenLaw.row PySem.Challenge.rw_waitnumbers_k60_registrations_left_behin).prog 45) (kwd := []) Wn.ob_eq
    (by kernel_rfl) (fun s => by kernel_rfl) Wn.run (by kernel_rfl) (by kernel_rfl) (by kernel_rfl) (by rfl) (by first | assumption | decide +kernel) (by decide +kernel) ⟨rfl, rfl, rfl, rfl, rfl, by decide +kernel⟩ ?hw ?hc
  case hw => w_witness2
  case hc =>
    refine L2.walk_ofE (l := PySem.Challenge.rw_waitnumbers_k60_registrations_left_behin) (n := 63) (k := 9) (x := "_law_script") (CX := L2.CX0) rfl (by decide) (by kernel_rfl) ⟨rfl, by decide, by decide⟩ ?F (fun _ _ _ _ z => z)
    intro w mg fa h Y G hmg0
    obtain ⟨K, KX, c, _⟩ := Y
    have hmg : mg ("law" : PySem.Str) = some (.ref fa) := by
      have e : (HandSHeadRun.topDef Wn.Rw.prog 45).name = ("law" : PySem.Str) := by kernel_rfl
      rw [← e]
      exact hmg0
    obtain ⟨fd, hb, hF⟩ := Wn.facts (P := (PySem.Challenge.rw_waitnumbers_k60_registrations_left_behin).prog) (w := w) KX G hmg c
    exact ⟨K, fd, Wn.spLaw K, KX, hb, fun H a ns hl _ hS => ⟨a, ns, rfl, hS, hl, fun _ => rfl⟩, hF⟩

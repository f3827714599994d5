import PyProof.Rows.All
import Wide.All
import OpenK.AllK
import Wide.FinOn
import KE.KNestM
import HandS.HeadHook1
import KE.KStateDown
import Lean
import HandS.Head0
import HandS.Head1
import HandS.Head2
import HandS.ForMost
import KE.KExcSuper
import HandS.Exc
import HandS.ExcInit
import KE.KIsAll
import KE.KExcIs
import HandS.ExcField
import HandS.IsInst
import KE.KLam
import KE.KNest
import HandS.Lambda
import HandS.DeepEq
import PyProof.ReprRoads
import HandS.Words
import HandS.EndTab
import HandS.Walk
import PySem.Challenge.RW_oldaddress_k00_errors_made
set_option Elab.async false
set_option linter.all false
set_option maxRecDepth 100000
set_option maxHeartbeats 0
namespace OA
open PySem PySem.Spec PyProof.Rows L2
def top (i : Nat) : Stmt := PySem.Challenge.pw_oldaddress_k00_errors_made.main.body.getD i (.Pass ⟨0, 0, 0, 0⟩)
end OA
namespace OE
open PySem PySem.Spec PyProof.Rows L2 LamX
abbrev ClD := Str × Option Str × Nat
def cInit (r : ClD) : Stmt := inClass (OA.top r.2.2) 0
def clsA : List ClD := ("BadAddresses", some "index", 2) :: ("BadMost", some "most", 3) :: ("BadLand", some "thing", 4) :: ("BadDeeds", some "index", 5) :: ("BadMoment", some "moment", 6) :: ("NoAddress", some "address", 7) :: ("BadPiece", some "piece", 8) :: ("BadIndex", some "index", 9) :: ("CannotBeDone", some "deed", 10) :: ("BadNumbers", some "index", 11) :: ("NotMade", some "piece", 12) :: ("BadTimes", some "times", 13) :: ("BadLife", some "life", 14) :: ("BadHolder", some "holder", 15) :: ("BadPolicy", some "policy", 16) :: ("BadDue", some "due", 17) :: ("BadPromise", some "promise", 18) :: ("BadWidth", some "width", 19) :: ("BadTable", some "thing", 20) :: ("BadView", some "view", 21) :: ("NoWord", some "thing", 22) :: ("BadMarks", some "marks", 23) :: ("BadTurn", some "k", 24) :: ("BadState", some "state", 25) :: ("UnlikeLands", none, 26) :: ("BadWord", some "word", 27) :: ("BadDiscipline", some "thing", 28) :: ("BadWithin", some "within", 29) :: ("BadAsks", some "index", 30) :: ("BadWish", some "wish", 31) :: ("BadPrices", some "prices", 32) :: []
def clsB : List ClD := ("BadBook", some "book", 34) :: ("BadDay", some "day", 35) :: ("BadPace", some "pace", 36) :: ("BadRest", some "rest", 37) :: ("BadMoves", some "moves", 38) :: ("BadIdle", some "idle", 39) :: ("BadLetters", some "index", 40) :: ("BadPostage", some "index", 41) :: ("BadStamp", some "stamp", 42) :: ("BadRent", some "rent", 43) :: ("BadStays", some "index", 44) :: ("BadMany", some "many", 45) :: ("BadHistory", some "history", 46) :: ("BadOwners", some "owners", 47) :: ("BadHeirs", some "heirs", 48) :: ("BadTurns", some "index", 49) :: ("NoHouse", some "house", 50) :: ("BadHouses", some "index", 51) :: ("NotARow", none, 52) :: ("BadSeen", some "index", 53) :: ("BadHistories", some "index", 54) :: ("Crowded", some "address", 55) :: ("BadFunction", some "thing", 56) :: ("CanBeKept", none, 57) :: ("BadWriter", some "writer", 58) :: ("BadSlate", some "thing", 59) :: ("BadTruth", some "thing", 60) :: ("BadLooks", some "index", 61) :: ("BadOrder", some "order", 62) :: ("IsWatched", some "promise", 63) :: ("NotWatched", some "promise", 64) :: ("Broken", some "promise", 65) :: ("WouldBreak", some "promise", 66) :: ("BadNumber", some "number", 67) :: ("BadThing", some "thing", 68) :: ("BadText", some "line", 69) :: []
end OE
namespace OE
open PySem PySem.Spec PyProof.Rows L2 LamX
/-! ### one class -/
def eTail : List Value := [.type "ValueError", .type "Exception", .type "BaseException", .type "object"]
def iAt (K : PySem.W.Frag) (x : Str) : Addr := He.ma K (He.ga K x) "__init__"
def newIs (sl : List (Option Value)) : Bool := match sl with
  | [_, _, _, _, some (.builtin n), _] => n == "ValueError.__new__"
  | _ => false
def clsShape (K : PySem.W.Frag) (C cE : Addr) : Bool := match K.lookup C with
  | some ⟨.type "type", _, .cls cd, sl⟩ => decide (cd.mro = .ref C :: .ref cE :: eTail) && (cd.hasDict && (!cd.hasDel && newIs sl.toList))
  | _ => false
def fileIs (K : PySem.W.Frag) (file : Str) (cda : Addr) : Bool := match K.lookup cda with
  | some ⟨_, _, .fields vs, _⟩ => (match (vs[2]? : Option Value) with
    | some (.str z _) => file == z
    | _ => false)
  | _ => false
def cellIs (K : PySem.W.Frag) (C : Addr) (cl : List (Str × Addr)) : Bool := match cl with
  | [(_, cc)] => (match K.lookup cc with
    | some ⟨_, _, .cell (some (.ref C')), _⟩ => C' == C
    | _ => false)
  | _ => false
def initShape (K : PySem.W.Frag) (file : Str) (C f : Addr) : Bool := match K.lookup f with
  | some ⟨_, _, .func fd, _⟩ => (match fd.code with
      | .ref cda => PySem.W.codeIn K (.ref cda) fd.qualname && fileIs K file cda
      | _ => false) && cellIs K C fd.closure
  | _ => false
abbrev InV : Type := Option (Str × Arguments × FuncBody × Scope × Addr × List Str × Value × Value × Addr)
def initO (K : PySem.W.Frag) (f : Addr) : InV := match K.lookup f with
  | some ⟨_, _, .func fd, _⟩ => some (fd.name, fd.params, fd.body, fd.scope, fd.globals, fd.closure.map (·.1), fd.defaults, fd.kwdefaults, fd.builtins)
  | _ => none
def initV (st : Stmt) : InV := some ("__init__", defArgs st, .stmts (defBody st), defScope st, mainGlobals, ["__class__"], .none, .none, builtinsNs)
def noF (K : PySem.W.Frag) (C : Addr) (fo : Option Str) : Bool := match fo with
  | some f => He.eqO (PySem.W.findIn K (.ref C) f) (some none)
  | none => true
def dsOf (K : PySem.W.Frag) (cls : List ClD) : List Addr := cls.map fun r => He.ga K r.1
/-- the code's object and its table -/
def cdOf (K : PySem.W.Frag) (x : Str) : Addr × Addr := match K.lookup (He.ga K x) with
  | some ⟨_, _, .func fd, _⟩ => (match fd.code with
    | .ref c => (match K.lookup c with
      | some ⟨_, _, .fields vs, _⟩ => (match (vs[11]? : Option Value) with
        | some (.ref P) => (c, P)
        | _ => (c, 0))
      | _ => (c, 0))
    | _ => (0, 0))
  | _ => (0, 0)
/-! ### what is looked at behind the top, object by object -/
def gEs (g : Addr → Option Obj) (N : Addr) : List DictEntry := match g N with
  | some ⟨_, _, .dict es _, _⟩ => es.toList
  | _ => []
def isDict (g : Addr → Option Obj) (N : Addr) : Bool := match g N with
  | some ⟨_, _, .dict _ _, _⟩ => true
  | _ => false
def inEs (es : List DictEntry) (x : Str) : Option Value := (es.find? fun e => e.key.isStr x).map (·.val)
def noEs (es : List DictEntry) (x : Str) : Bool := (es.find? fun e => e.key.isStr x).isNone
def noRef (es : List DictEntry) : Bool := !(es.any fun e => e.refKey)
def refIn (es : List DictEntry) (x : Str) : Addr := match inEs es x with
  | some (.ref a) => a
  | _ => 0
def isRef (es : List DictEntry) (x : Str) : Bool := match inEs es x with
  | some (.ref _) => true
  | _ => false
def adr (g : Addr → Option Obj) (x : Str) : Addr := refIn (gEs g mainGlobals) x
def clNs (g : Addr → Option Obj) (C : Addr) : Addr := match g C with
  | some ⟨_, _, .cls cd, _⟩ => cd.ns
  | _ => 0
def fnCd (g : Addr → Option Obj) (f : Addr) : Addr := match g f with
  | some ⟨_, _, .func fd, _⟩ => (match fd.code with
    | .ref c => c
    | _ => 0)
  | _ => 0
def fnCl (g : Addr → Option Obj) (f : Addr) : Addr := match g f with
  | some ⟨_, _, .func fd, _⟩ => (match fd.closure with
    | [(_, c)] => c
    | _ => 0)
  | _ => 0
def inAd (g : Addr → Option Obj) (C : Addr) : Addr := refIn (gEs g (clNs g C)) "__init__"
def clsAs (g : Addr → Option Obj) (x : Str) : List Addr := let C := adr g x
  [C, clNs g C, inAd g C, fnCd g (inAd g C), fnCl g (inAd g C)]
def fnAs (g : Addr → Option Obj) (x : Str) : List Addr := [adr g x, fnCd g (adr g x)]
def frOf (fns : List Str) (cls : List ClD) (g : Addr → Option Obj) : PySem.W.Frag := He.frG g (mainGlobals :: cStatics :: (fns.flatMap (fnAs g) ++ (adr g "AddressError" :: clNs g (adr g "AddressError") :: cls.flatMap fun r => clsAs g r.1)))
/-- the names that an error class must not define -/
def specials : List Str := ["__setattr__", "__getattribute__", "__getattr__", "__class__"]
def foNames (fo : Option Str) : List Str := match fo with
  | some f => [f]
  | none => []
def codeD (g : Addr → Option Obj) (q file : Str) (c : Addr) : Bool := match g c with
  | some ⟨_, _, .fields vs, _⟩ => (match vs.toList with
    | _ :: .str n _ :: .str z _ :: _ => n == q && file == z
    | _ => false)
  | _ => false
def cellD (g : Addr → Option Obj) (C c : Addr) : Bool := match g c with
  | some ⟨_, _, .cell (some (.ref C')), _⟩ => C' == C
  | _ => false
def fnD (g : Addr → Option Obj) (file : Str) (C f : Addr) : Bool := match g f with
  | some ⟨.type "function", _, .func fd, _⟩ => (match fd.code with
      | .ref c => codeD g fd.qualname file c
      | _ => false) && (match fd.closure with
      | [(_, c)] => cellD g C c
      | _ => false)
  | _ => false
def nsD (g : Addr → Option Obj) (file : Str) (fo : Option Str) (C N : Addr) : Bool := isDict g N && (noRef (gEs g N) && ((specials.all fun n => noEs (gEs g N) n) && (((foNames fo).all fun n => noEs (gEs g N) n) && (isRef (gEs g N) "__init__" && fnD g file C (refIn (gEs g N) "__init__")))))
def clsD (g : Addr → Option Obj) (file : Str) (cE : Addr) (r : ClD) : Bool := isRef (gEs g mainGlobals) r.1 && (match g (adr g r.1) with
  | some ⟨.type "type", _, .cls cd, sl⟩ => decide (cd.name = r.1) && (decide (cd.mro = .ref (adr g r.1) :: .ref cE :: eTail) && (cd.hasDict && (!cd.hasDel && (newIs sl.toList && nsD g file r.2.1 (adr g r.1) cd.ns))))
  | _ => false)
def initG (g : Addr → Option Obj) (f : Addr) : InV := match g f with
  | some ⟨_, _, .func fd, _⟩ => some (fd.name, fd.params, fd.body, fd.scope, fd.globals, fd.closure.map (·.1), fd.defaults, fd.kwdefaults, fd.builtins)
  | _ => none
/-- the base of all errors -/
def baseD (g : Addr → Option Obj) (flds : List Str) : Bool := isDict g mainGlobals && (noRef (gEs g mainGlobals) && (isRef (gEs g mainGlobals) "AddressError" && (match g (adr g "AddressError") with
  | some ⟨.type "type", _, .cls cd, _⟩ => decide (cd.name = ("AddressError" : Str)) && (isDict g cd.ns && (noRef (gEs g cd.ns) && ((specials.all fun n => noEs (gEs g cd.ns) n) && (noEs (gEs g cd.ns) "__init__" && flds.all fun n => noEs (gEs g cd.ns) n))))
  | _ => false)))
def statD (g : Addr → Option Obj) : Bool := isDict g cStatics && (noRef (gEs g cStatics) && noEs (gEs g cStatics) "thirdparty.any")
abbrev FnV2 : Type := Option (Str × Str × Arguments × FuncBody × Scope × Addr × List (Str × Addr) × Value × Addr)
def lawG (g : Addr → Option Obj) (f : Addr) : FnV2 := match g f with
  | some ⟨_, _, .func fd, _⟩ => some (fd.name, fd.qualname, fd.params, fd.body, fd.scope, fd.globals, fd.closure, fd.defaults, fd.builtins)
  | _ => none
def lawV (x : Str) (st : Stmt) : FnV2 := some (x, x, defArgs st, .stmts (defBody st), defScope st, mainGlobals, [], .none, builtinsNs)
def codeQ (g : Addr → Option Obj) (q : Str) (c : Addr) : Bool := match g c with
  | some ⟨_, _, .fields vs, _⟩ => (match vs.toList with
    | _ :: .str n _ :: _ => n == q
    | _ => false)
  | _ => false
def lawD (g : Addr → Option Obj) (x : Str) : Bool := isRef (gEs g mainGlobals) x && (match g (adr g x) with
  | some ⟨_, _, .func fd, _⟩ => (match fd.code with
    | .ref c => codeQ g x c
    | _ => false)
  | _ => false)
/-- the table of a def's code -/
def tabOf (g : Addr → Option Obj) (c : Addr) : Addr := match g c with
  | some ⟨_, _, .fields vs, _⟩ => (match (vs[11]? : Option Value) with
    | some (.ref P) => P
    | _ => 0)
  | _ => 0
def tabD (g : Addr → Option Obj) (x : Str) : Bool := let c := fnCd g (adr g x)
  let P := tabOf g c
  (match g c with
    | some ⟨.type "code", _, .fields vs, _⟩ => (match (vs[11]? : Option Value) with | some (.ref P') => P' == P | _ => false) && ((match vs.getD 18 .none with | .str _ _ => true | _ => false) && ((match vs.getD 7 .none with | .int _ _ => true | _ => false) &&
      ((match vs.getD 9 .none with | .bool _ => true | _ => false) && ((match vs.getD 10 .none with | .int _ _ => true | _ => false) && c != P))))
    | _ => false) && (match g P with
    | some ⟨.none, none, .fields vs, sl⟩ => vs.isEmpty && sl.isEmpty
    | _ => false)
/-! ### two hooks, one behind the other -/
def tabsApart (tabs : List Str) (g : Addr → Option Obj) : Bool := decide (tabs.map fun x => tabOf g (fnCd g (adr g x))).Nodup
def hookA (fns : List (Str × Nat)) (frees tabs flds : List Str) (g : Addr → Option Obj) : Bool × List FnV2 := (baseD g flds && (statD g && ((frees.all fun x => noEs (gEs g mainGlobals) x) && ((fns.all fun x => lawD g x.1) && ((tabs.all fun x => tabD g x) && tabsApart tabs g)))), fns.map fun x => lawG g (adr g x.1))
def hookB (cls : List ClD) (file : Str) (g : Addr → Option Obj) : Bool × List InV := (cls.all (clsD g file (adr g "AddressError")), cls.map fun r => initG g (inAd g (adr g r.1)))
end OE
namespace OE
open PySem PySem.W PySem.Calls PyProof.Rows
abbrev R : OpenRow := OpenLaw.row PySem.Challenge.rw_oldaddress_k00_errors_made
abbrev qv : Program := view R.prog [80]
def names0 : List PySem.Str := ["__name__", "AddressError", "BadAddresses", "BadMost", "BadLand", "BadDeeds", "BadMoment", "NoAddress", "BadPiece", "BadIndex", "CannotBeDone", "BadNumbers", "NotMade", "BadTimes", "BadLife", "BadHolder", "BadPolicy", "BadDue", "BadPromise", "BadWidth", "BadTable", "BadView", "NoWord", "BadMarks", "BadTurn", "BadState", "UnlikeLands", "BadWord", "BadDiscipline", "BadWithin"]
def names1 : List PySem.Str := ["BadAsks", "BadWish", "BadPrices", "BadBook", "BadDay", "BadPace", "BadRest", "BadMoves", "BadIdle", "BadLetters", "BadPostage", "BadStamp", "BadRent", "BadStays", "BadMany", "BadHistory", "BadOwners", "BadHeirs", "BadTurns", "NoHouse", "BadHouses", "NotARow", "BadSeen", "BadHistories", "Crowded", "BadFunction", "CanBeKept", "BadWriter", "BadSlate", "BadTruth"]
def names2 : List PySem.Str := ["BadLooks", "BadOrder", "IsWatched", "NotWatched", "Broken", "WouldBreak", "BadNumber", "BadThing", "BadText", "_law_stream", "_law_draw", "_law_pick", "_law_made_a", "_law_made_b", "_law_kinds_a", "_law_kinds_b", "_law_is_own", "_law_same"]
def names : List PySem.Str := names0 ++ names1 ++ names2
def lawFns : List (PySem.Str × Nat) := (("_law_stream" : PySem.Str), 71) :: (("_law_draw" : PySem.Str), 72) :: (("_law_pick" : PySem.Str), 73) :: (("_law_made_a" : PySem.Str), 74) :: (("_law_made_b" : PySem.Str), 75) :: (("_law_kinds_a" : PySem.Str), 76) :: (("_law_kinds_b" : PySem.Str), 77) :: (("_law_is_own" : PySem.Str), 78) :: (("_law_same" : PySem.Str), 79) :: (("law" : PySem.Str), 80) :: []
def frees : List PySem.Str := ("isinstance" : PySem.Str) :: "ValueError" :: "LookupError" :: "range" :: "enumerate" :: "repr" :: "abs" :: "int" :: "list" :: "len" :: "super" :: []
def flds : List PySem.Str := ("address" : PySem.Str) :: "book" :: "day" :: "deed" :: "due" :: "heirs" :: "history" :: "holder" :: "house" :: "idle" :: "index" :: "k" :: "life" :: "line" :: "many" :: "marks" :: "moment" :: "most" :: "moves" :: "number" :: "order" :: "owners" :: "pace" :: "piece" :: "policy" :: "prices" :: "promise" :: "rent" :: "rest" :: "stamp" :: "state" :: "thing" :: "times" :: "view" :: "width" :: "wish" :: "within" :: "word" :: "writer" :: []
def clsAll : List ClD := clsA ++ clsB
def tabs : List PySem.Str := ["_law_made_a", "_law_made_b"]
def file : PySem.Str := "/claim/cut.py"
/-- one look at the state behind the top -/
def RunP {β : Type} (ob : SharedT → β) (v : β) : Prop := ∀ (w : World) (os : OsState), (HandSHeadRun.endF (HandSHeadRun.stepQ (HandSHeadRun.denQ HandSHeadRun.tabQ) R.prog w) 20000 R.prog w os).map ob = some v
def obA (s : SharedT) : Bool × List FnV2 := hookA lawFns frees tabs flds (HandSHeadRun.getT s)
def vA : Bool × List FnV2 := (true, lawFns.map fun x => lawV x.1 (OA.top x.2))
def part (i n : Nat) : List ClD := (clsAll.drop i).take n
def obB (i n : Nat) (s : SharedT) : Bool × List InV := hookB (part i n) file (HandSHeadRun.getT s)
def vB (i n : Nat) : Bool × List InV := (true, (part i n).map fun r => initV (cInit r))
end OE
namespace OE
open PySem PySem.W PySem.Calls PyProof.Rows
theorem runL (w : World) (os : OsState) : (HandSHeadRun.endF (HandSHeadRun.stepQ (HandSHeadRun.denQ HandSHeadRun.tabQ) R.prog w) 20000 R.prog w os).map (fun s => HandSHeadRun.looksF R.prog (boot_heap w.params) s.abs) = some true := by
  kernel_rfl
end OE
namespace OE
open PySem PySem.W PySem.Calls PyProof.Rows
theorem runS (w : World) (os : OsState) : (HandSHeadRun.endF (HandSHeadRun.stepQ (HandSHeadRun.denQ HandSHeadRun.tabQ) R.prog w) 20000 R.prog w os).map (fun s => HandSHeadRun.seenQ qv names (importedModules R.prog.main.body) (fun s => xlAt qv [] s && recOk R.toRowW.records s) s.abs) = some (openGood qv names) := by
  kernel_rfl
end OE
namespace OE
open PySem PySem.W PySem.Calls PyProof.Rows
theorem runA : RunP obA vA := by
  intro w os
  kernel_rfl
end OE
namespace OE
open PySem PySem.W PySem.Calls PyProof.Rows
theorem runB0 : RunP (obB 0 17) (vB 0 17) := by
  intro w os
  kernel_rfl
end OE
namespace OE
open PySem PySem.W PySem.Calls PyProof.Rows
theorem runB1 : RunP (obB 17 17) (vB 17 17) := by
  intro w os
  kernel_rfl
end OE
namespace OE
open PySem PySem.W PySem.Calls PyProof.Rows
theorem runB2 : RunP (obB 34 17) (vB 34 17) := by
  intro w os
  kernel_rfl
end OE
namespace OE
open PySem PySem.W PySem.Calls PyProof.Rows
theorem runB3 : RunP (obB 51 16) (vB 51 16) := by
  intro w os
  kernel_rfl
end OE
/-! The draws of the laws: a stream of numbers out of the script's cells. -/
namespace OA
open PySem PySem.Spec PyProof.Rows L2
abbrev sStream : Stmt := top 71
abbrev sDraw : Stmt := top 72
abbrev sPick : Stmt := top 73
/-! ### what is drawn -/
/-- at p the stream: its cells (at l), its digits, its count, its mixture -/
def StreamAt (H : Hp) (p l : Addr) (d c m : Int) (cells : List Int) : Prop :=
  H p = some (.lst [.ref l, .int d, .int c, .int m]) ∧ H l = some (.lst (cells.map V.int)) ∧ 0 ≤ d ∧ 0 ≤ c ∧ 0 ≤ m ∧ m < 2147483647
theorem map_int_cons {cells : List Int} {x : V} {xs : List V} (h : cells.map V.int = x :: xs) : ∃ i r, cells = i :: r ∧ x = .int i ∧ xs = r.map V.int := by
  cases cells with
  | nil => cases h
  | cons i r =>
    have e : V.int i :: r.map V.int = x :: xs := h
    injection e with e1 e2
    exact ⟨i, r, rfl, e1.symm, e2.symm⟩
theorem StreamAt.ne {H : Hp} {p l : Addr} {d c m : Int} {cells : List Int} (S : StreamAt H p l d c m cells) : p ≠ l := by
  refine ne_of S.1 S.2.1 fun q => ?_
  injection q with q
  obtain ⟨i, r, _, e, _⟩ := map_int_cons q.symm
  cases e
/-- all but the stream's two lists stands -/
def But (p l : Addr) (H H' : Hp) : Prop := ∀ b o, b ≠ p → b ≠ l → H b = some o → H' b = some o
theorem But.refl {p l : Addr} {H : Hp} : But p l H H := fun _ _ _ _ h => h
theorem But.trans {p l : Addr} {H H1 H2 : Hp} (a : But p l H H1) (b : But p l H1 H2) : But p l H H2 := fun x o h1 h2 h => b x o h1 h2 (a x o h1 h2 h)
theorem But.new {p l q : Addr} {H : Hp} {u : HO} (h : H q = none) : But p l H (upd H q u) := fun b o _ _ e => by
  rw [upd_ne (ne_of_none e h)]
  exact e
theorem But.p {p l : Addr} {H : Hp} {u : HO} : But p l H (upd H p u) := fun b o h _ e => by
  rw [upd_ne h]
  exact e
theorem But.l {p l : Addr} {H : Hp} {u : HO} : But p l H (upd H l u) := fun b o _ h e => by
  rw [upd_ne h]
  exact e
def spStream (K : PySem.W.Frag) : Sp := fun vs H Q _ => ∃ (a : Addr) (ns : List Int), vs = [.ref a] ∧ SqL K H a (ns.map V.int) ∧
  ∀ H' p l, H p = none → H l = none → Same H H' → StreamAt H' p l 0 0 17 ns → Q (.ref p) H'
def spDraw : Sp := fun vs H Q _ => ∃ (p l : Addr) (d c m many : Int) (cells : List Int), vs = [.ref p, .int many] ∧ StreamAt H p l d c m cells ∧ c < 1099511627776 ∧ 0 < many ∧ many < 1073741824 ∧
  ∀ H' d' m' cells' n, But p l H H' → StreamAt H' p l d' (c + 1) m' cells' → 0 ≤ n → n < many → Q (.int n) H'
structure Txt0 (mg : Str → Option Value) : Prop where
  abs : mg "abs" = none
  int : mg "int" = none
  list : mg "list" = none
  len : mg "len" = none
section
variable {P : Program} {w : World} {K : PySem.W.Frag} {mg : Str → Option Value} {base : Heap}
theorem scStream : FnScope ["_law_script"] ["_law_script"] (defScope sStream) := ⟨rfl, rfl, rfl, by decide +kernel, rfl, by decide +kernel, by decide +kernel⟩
theorem ok_stream {f : Addr} {fd : FuncData} (F : Fun K "_law_stream" "_law_stream" sStream f fd) (T : Txt0 mg) : FnOk P w K mg base CX0 1 f fd ["_law_script"] (spStream K) := by
  refine F.ok scStream (fun vs H Q E h => ?_) (fun cdv A outer s H vs Q E hr h => ?_)
  · obtain ⟨a, ns, rfl, _⟩ := h
    rfl
  · obtain ⟨a, ns, rfl, hs, k⟩ := h
    refine ⟨_, pss_one (ps_ret (pe_lst (pa_cons (pe_callTy call_list_of (by rfl) T.list (by decide +kernel) (pa_cons (pv 0) pa_nil)) (pa_cons pe_int (pa_cons pe_int (pa_cons pe_int pa_nil)))))), ?_⟩
    refine ⟨_, rfl, a, _, rfl, .inl hs, fun l hl => ?_⟩
    refine ⟨by show 4 ≤ sizeLine; decide, fun p hp => ?_⟩
    have npl : p ≠ l := fun z => by
      rw [z, upd_same] at hp
      cases hp
    have hp0 : H p = none := by
      rw [upd_ne npl] at hp
      exact hp
    refine k _ p l hp0 hl (fun b o e => ?_) ⟨upd_same, ?_, by decide, by decide, by decide, by decide⟩
    · rw [upd_ne (ne_of_none e hp0), upd_ne (ne_of_none e hl)]
      exact e
    · rw [upd_ne npl.symm, upd_same]
theorem scDraw : FnScope ["_law_stream_here", "_law_many", "_law_cell", "_law_digit", "_law_mixed"] ["_law_stream_here", "_law_many"] (defScope sDraw) := ⟨rfl, rfl, rfl, by decide +kernel, rfl, by decide +kernel, by decide +kernel⟩
end
end OA
namespace OA
open PySem PySem.Spec PyProof.Rows L2
theorem depth_ints : ∀ (cs : List Int), PyData.depthAll (cs.map PyData.int) = 0
  | [] => rfl
  | c :: cs => by
    show max 0 (PyData.depthAll (cs.map PyData.int)) = 0
    rw [depth_ints cs]
    rfl
theorem lay_ints : ∀ (cs : List Int), PyData.canLayAll0 (cs.map PyData.int) = true
  | [] => rfl
  | c :: cs => by
    show (true && PyData.canLayAll0 (cs.map PyData.int)) = true
    rw [lay_ints cs]
    rfl
theorem shaped_ints (cs : List Int) : SeqAt.shaped (.list (cs.map PyData.int)) = true := by
  show (PyData.canLayAll0 (cs.map PyData.int) && decide (PyData.depthAll (cs.map PyData.int) + 1 ≤ 64)) = true
  rw [lay_ints, depth_ints]
  rfl
theorem dp_ints {K : PySem.W.Frag} {H : Hp} : ∀ (cs : List Int), DpAll K H (cs.map V.int) (cs.map PyData.int)
  | [] => .nil
  | c :: cs => .cons (.int c) (dp_ints cs)
theorem eqv_nil (cs : List Int) : PyData.eqv (.list (cs.map PyData.int)) (.list []) = cs.isEmpty := by
  cases cs <;> rfl
/-- how many cells the list at l has -/
def lenAt (H : Hp) (l : Addr) : Nat := match H l with
  | some (.lst xs) => xs.length
  | _ => 0
theorem lenAt_of {H : Hp} {l : Addr} {xs : List V} (h : H l = some (.lst xs)) : lenAt H l = xs.length := by
  unfold lenAt
  rw [h]
/-- the stream's list written anew -/
theorem StreamAt.put {H : Hp} {p l : Addr} {d c m : Int} {cells : List Int} (S : StreamAt H p l d c m cells) {d' c' m' : Int} (h1 : 0 ≤ d') (h2 : 0 ≤ c') (h3 : 0 ≤ m') (h4 : m' < 2147483647) :
    StreamAt (upd H p (.lst [.ref l, .int d', .int c', .int m'])) p l d' c' m' cells :=
  ⟨upd_same, by rw [upd_ne S.ne.symm]; exact S.2.1, h1, h2, h3, h4⟩
theorem StreamAt.cut {H : Hp} {p l : Addr} {d c m : Int} {cells cs : List Int} (S : StreamAt H p l d c m cells) : StreamAt (upd H l (.lst (cs.map V.int))) p l d c m cs :=
  ⟨by rw [upd_ne S.ne]; exact S.1, upd_same, S.2.2⟩
theorem StreamAt.but {H : Hp} {p l q : Addr} {u : HO} {d c m : Int} {cells : List Int} (S : StreamAt H p l d c m cells) (h : H q = none) : StreamAt (upd H q u) p l d c m cells :=
  ⟨by rw [upd_ne (ne_of_none S.1 h)]; exact S.1, by rw [upd_ne (ne_of_none S.2.1 h)]; exact S.2.1, S.2.2⟩
section
variable {P : Program} {w : World} {K : PySem.W.Frag} {mg : Str → Option Value} {base : Heap}
theorem ok_draw {f : Addr} {fd : FuncData} (F : Fun K "_law_draw" "_law_draw" sDraw f fd) (T : Txt0 mg) : FnOk P w K mg base CX0 1 f fd ["_law_stream_here", "_law_many"] spDraw := by
  refine F.ok scDraw (fun vs H Q E h => ?_) (fun cdv A outer s H vs Q E hr h => ?_)
  · obtain ⟨p, l, d, c, m, many, cells, rfl, _⟩ := h
    rfl
  · obtain ⟨p, l, d, c, m, many, cells, rfl, S, hc, hm, hm2, k⟩ := h
    have nd := scDraw.nd
    have d1 : 0 ≤ d := S.2.2.1
    have c1 : 0 ≤ c := S.2.2.2.1
    have m1 : 0 ≤ m := S.2.2.2.2.1
    have m2 : m < 2147483647 := S.2.2.2.2.2
    have S1 := S.put (d' := d) (c' := c + 1) (m' := m) d1 (by omega) m1 m2
    -- behind the loop
    obtain ⟨tT, hT, fin⟩ : ∃ t, PSs (cxOf CX0 P w K mg base ["_law_stream_here", "_law_many", "_law_cell", "_law_digit", "_law_mixed"] "_law_draw" (defScope sDraw) f cdv A outer s H E).nox ((defBody sDraw).drop 2) t ∧
        ∀ (H2 : Hp) (d m : Int) (cs : List Int) (x2 : Option V), StreamAt H2 p l d (c + 1) m cs → But p l H H2 → t { nx := fun _ H' => Q .non H', rt := Q } [some (.ref p), some (.int many), x2, none, none] H2 := by
      refine ⟨_, pss_cons (ps_if (pt_cmpR op_gt (pe_ix ix_list (pv 0) pe_int (fun _ _ => rfl)) pe_int (nomark _))
          (pss_cons (ps_set (i := 3) nd rfl (Or.inl rfl) (pe_op op_mod (pe_callTy call_int1 (by rfl) T.int (by decide +kernel) (pa_cons (pe_ix ix_list (pv 0) pe_int (fun _ _ => rfl)) pa_nil)) (pv 1)))
          (pss_cons (ps_asg (pe_op op_fdiv (pe_ix ix_list (pv 0) pe_int (fun _ _ => rfl)) (pv 1)) (pg_sub (pv 0) pe_int set_list))
          (pss_one (ps_ret (pv 3))))) pss_nil)
        (pss_cons (ps_set (i := 4) nd rfl (Or.inl rfl) (pe_op op_mod (pe_callTy call_int1 (by rfl) T.int (by decide +kernel) (pa_cons (pe_op op_pow (pe_op op_add (pe_op op_add (pe_ix ix_list (pv 0) pe_int (fun _ _ => rfl)) (pe_op op_mul pe_int (pe_ix ix_list (pv 0) pe_int (fun _ _ => rfl)))) pe_int) pe_int) pa_nil)) pe_int))
        (pss_one (ps_ret (pe_op op_mod (pe_op op_mod (pe_callTy call_int1 (by rfl) T.int (by decide +kernel) (pa_cons (pe_op op_pow (pe_op op_add (pe_op op_add (pe_op op_mul (pv 4) pe_int) (pe_op op_mul pe_int (pe_ix ix_list (pv 0) pe_int (fun _ _ => rfl)))) pe_int) pe_int) pa_nil)) pe_int) (pv 1))))), ?_⟩
      intro H2 d m cs x2 S B
      have d1 : 0 ≤ d := S.2.2.1
      have m1 : 0 ≤ m := S.2.2.2.2.1
      have m2 : m < 2147483647 := S.2.2.2.2.2
      refine ⟨_, rfl, p, _, 1, .int d, rfl, rfl, SqL.of S.1, rfl, d, 0, rfl, rfl, _, rfl, ?_⟩
      refine ite2 (fun h => ?_) (fun h => ?_)
      · refine ⟨_, rfl, p, _, 1, .int d, rfl, rfl, SqL.of S.1, rfl, .inl ⟨d, rfl, _, rfl, d, many, rfl, rfl, hm, ?_⟩⟩
        refine ⟨_, rfl, p, _, 1, .int d, rfl, rfl, SqL.of S.1, rfl, _, rfl, d, many, rfl, rfl, ⟨hm, hm2⟩, _, rfl, p, _, 1, 1, rfl, rfl, S.1, rfl, ?_⟩
        refine ⟨_, rfl, k _ (d / many) m cs (d % many) (B.trans But.p) (S.put (Int.ediv_nonneg d1 (Int.le_of_lt hm)) (by omega) m1 m2) (Int.emod_nonneg _ (by omega)) (Int.emod_lt_of_pos _ hm)⟩
      · have d0 : d = 0 := by
          have h' : ¬ (0 < d) := fun z => h (decide_eq_true z)
          omega
        subst d0
        -- mixed = int((here[3] + 7919 * here[2] + 104729) ** 5) % 2147483629
        refine ⟨_, rfl, p, _, 3, .int m, rfl, rfl, SqL.of S.1, rfl, _, rfl, p, _, 2, .int (c + 1), rfl, rfl, SqL.of S.1, rfl, 7919, c + 1, rfl, rfl, .inl ⟨by decide, by decide⟩, m, _, rfl, rfl, _, 104729, rfl, rfl, _, 5, rfl, rfl, ⟨by decide, by decide, by omega⟩,
          .inl ⟨_, rfl, _, 2147483629, rfl, rfl, (by show (0 : Int) < 2147483629; decide), ?_⟩⟩
        have x1 := Int.emod_nonneg ((m + 7919 * (c + 1) + 104729) ^ Int.toNat 5) (show (2147483629 : Int) ≠ 0 by decide)
        have x2 := Int.emod_lt_of_pos ((m + 7919 * (c + 1) + 104729) ^ Int.toNat 5) (show (0 : Int) < 2147483629 by decide)
        show tSeq _ _ _ ([some (.ref p), some (.int many), _, none, some (V.int ((m + 7919 * (c + 1) + 104729) ^ Int.toNat 5 % 2147483629))]) H2
        generalize (m + 7919 * (c + 1) + 104729) ^ Int.toNat 5 % 2147483629 = x at x1 x2 ⊢
        -- return int((mixed * 48271 + 30011 * here[2] + 29) ** 3) % 1000000007 % many
        refine ⟨_, rfl, x, 48271, rfl, rfl, .inr ⟨by decide, by decide⟩, _, rfl, p, _, 2, .int (c + 1), rfl, rfl, SqL.of S.1, rfl, 30011, c + 1, rfl, rfl, .inl ⟨by decide, by decide⟩, _, _, rfl, rfl, _, 29, rfl, rfl, _, 3, rfl, rfl, ⟨by decide, by decide, by omega⟩,
          .inl ⟨_, rfl, _, 1000000007, rfl, rfl, (by show (0 : Int) < 1000000007; decide), _, rfl, _, many, rfl, rfl, hm, ?_⟩⟩
        exact k _ 0 m cs _ B S (Int.emod_nonneg _ (by omega)) (Int.emod_lt_of_pos _ hm)
    refine ⟨_, pss_cons (ps_asg (pe_op op_add (pe_ix ix_list (pv 0) pe_int (fun _ _ => rfl)) pe_int) (pg_sub (pv 0) pe_int set_list))
      (pss_cons (ps_while PassesOwn.never
          (PW.pt (pw_and (pt_cmpR op_eq (pe_ix ix_list (pv 0) pe_int (fun _ _ => rfl)) pe_int (nomark _)) (pw_and1 (pt_cmpR (op_neD hr.units) (pe_ix ix_list (pv 0) pe_int (fun _ _ => rfl)) (pe_lst pa_nil) (nomark _)))))
          (pss_cons (ps_set (i := 2) nd rfl (Or.inl rfl) (pe_callB call_abs (by rfl) T.abs (by decide +kernel) (pa_cons (pe_bm PySem.F.plainAttrs_list PySem.F.slot_list_pop PySem.F.type_list_pop mt_popAt (pe_ix ix_list (pv 0) pe_int (fun _ _ => rfl)) (pa_cons pe_int pa_nil)) pa_nil)))
          (pss_cons (ps_asg (pe_op op_mod (pe_callTy call_int1 (by rfl) T.int (by decide +kernel) (pa_cons (pe_op op_add (pe_op op_add (pe_op op_mul (pe_ix ix_list (pv 0) pe_int (fun _ _ => rfl)) pe_int) (pv 2)) pe_int) pa_nil)) pe_int) (pg_sub (pv 0) pe_int set_list))
          (pss_one (ps_asg (pe_ifExp (pt_cmpR op_ge (pv 2) (pe_op op_pow pe_int pe_int) (nomark _)) (pv 2) pe_int) (pg_sub (pv 0) pe_int set_list)))))) hT), ?_⟩
    -- here[2] = here[2] + 1
    refine ⟨_, rfl, p, _, 2, .int c, rfl, rfl, SqL.of S.1, rfl, c, 1, rfl, rfl, _, rfl, p, _, 2, 2, rfl, rfl, S.1, rfl, ?_⟩
    -- while
    refine ⟨fun n σ H' => ∃ (d m : Int) (cs : List Int) (x : Option V), n = cs.length ∧ σ = [some (.ref p), some (.int many), x, none, none] ∧ StreamAt H' p l d (c + 1) m cs ∧ But p l H H', ⟨_, d, m, cells, none, rfl, rfl, S1, But.p⟩, ?_⟩
    rintro n σ H1 ⟨d, m, cs, x2, rfl, rfl, S, B⟩
    have d1 : 0 ≤ d := S.2.2.1
    have m1 : 0 ≤ m := S.2.2.2.2.1
    have m2 : m < 2147483647 := S.2.2.2.2.2
    -- the test
    refine ⟨_, rfl, p, _, 1, .int d, rfl, rfl, SqL.of S.1, rfl, rfl, _, rfl, ?_⟩
    by_cases e0 : d = 0
    · subst e0
      refine iteT ⟨_, rfl, p, _, 0, .ref l, rfl, rfl, SqL.of S.1, rfl, ?_⟩
      refine ⟨Nat.zero_le _, fun q hq => ?_⟩
      have S2 : StreamAt (upd H1 q (.lst [])) p l 0 (c + 1) m cs := S.but hq
      have B2 := B.trans (But.new (p := p) (l := l) (u := .lst []) hq)
      refine ⟨_, _, .lst (SqL.of S2.2.1) (dp_ints cs), .lst (SqL.of upd_same) .nil, shaped_ints cs, rfl, _, rfl, ?_⟩
      rw [eqv_nil]
      cases cs with
      | nil => exact fin _ _ _ _ _ S2 B2
      | cons x cs =>
        refine ⟨fun σ' H' => ∃ (d m : Int) (cs' : List Int) (x : Option V), cs'.length = cs.length ∧ σ' = [some (.ref p), some (.int many), x, none, none] ∧ StreamAt H' p l d (c + 1) m cs' ∧ But p l H H', fun σ' H' ⟨d, m, cs', x, e, r⟩ => ⟨cs'.length, by rw [e]; exact Nat.lt_succ_self _, d, m, cs', x, rfl, r⟩, ?_⟩
        -- cell = abs(here[0].pop(0))
        refine ⟨_, rfl, p, _, 0, .ref l, rfl, rfl, SqL.of S2.1, rfl, .inl ⟨rfl, _, SqL.of S2.2.1⟩, l, _, 0, 0, .int x, rfl, rfl, S2.2.1, by decide, by decide, seqIndex_of (by decide) (by show (0 : Int) < ((List.map V.int (x :: cs)).length : Int); rw [List.length_map, List.length_cons]; omega), rfl, x, rfl, ?_⟩
        have S3 := S2.cut (cs := cs)
        have B3 := B2.trans (But.l (p := p) (l := l) (u := .lst (cs.map V.int)))
        -- here[3] = int(here[3] * 8191 + cell + 3) % 2147483647
        refine ⟨_, rfl, p, _, 3, .int m, rfl, rfl, SqL.of S3.1, rfl, m, 8191, rfl, rfl, .inl ⟨by omega, by omega⟩, _, rfl, _, _, rfl, rfl, _, 3, rfl, rfl, .inl ⟨_, rfl, _, 2147483647, rfl, rfl, (by show (0 : Int) < 2147483647; decide), ?_⟩⟩
        refine ⟨_, rfl, p, _, 3, 3, rfl, rfl, S3.1, rfl, ?_⟩
        have S4 := S3.put (d' := 0) (c' := c + 1) (m' := (m * 8191 + (if x < 0 then -x else x) + 3) % 2147483647) (by decide) (by omega) (Int.emod_nonneg _ (by decide)) (Int.emod_lt_of_pos _ (by decide))
        -- here[1] = cell if cell >= 10 ** 18 else 0
        refine ⟨_, rfl, 10, 18, rfl, rfl, ⟨by decide, by decide, by decide⟩, _, _, rfl, rfl, _, rfl, ?_⟩
        refine ite2 (fun h => ?_) (fun h => ?_)
        · have h0 : (10 : Int) ^ Int.toNat 18 ≤ (if x < 0 then -x else x) := of_decide_eq_true h
          refine ⟨_, rfl, _, rfl, p, _, 1, 1, rfl, rfl, S4.1, rfl, ?_⟩
          exact ⟨_, _, cs, _, rfl, rfl, S4.put (by split <;> omega) (by omega) S4.2.2.2.2.1 S4.2.2.2.2.2, (B3.trans But.p).trans But.p⟩
        · refine ⟨_, rfl, p, _, 1, 1, rfl, rfl, S4.1, rfl, ?_⟩
          exact ⟨_, _, cs, _, rfl, rfl, S4.put (by decide) (by omega) S4.2.2.2.2.1 S4.2.2.2.2.2, (B3.trans But.p).trans But.p⟩
    · have e : decide (V.int d = V.int 0) = false := decide_eq_false fun z => e0 (V.int.inj z)
      rw [e]
      exact iteF (fin _ _ _ _ _ S B)
end
end OA
namespace OA
open PySem PySem.Spec PyProof.Rows L2
def spPick (K : PySem.W.Frag) : Sp := fun vs H Q _ => ∃ (p l t : Addr) (d c m : Int) (cells : List Int) (xs : List V), vs = [.ref p, .ref t] ∧ StreamAt H p l d c m cells ∧ c < 1099511627776 ∧ H t = some (.lst xs) ∧ t ≠ p ∧ t ≠ l ∧ 0 < xs.length ∧ xs.length < 1000000 ∧
  ∀ H' d' m' cells' (j : Nat) x, But p l H H' → StreamAt H' p l d' (c + 1) m' cells' → xs[j]? = some x → Q x H'
structure Txt1 (K : PySem.W.Frag) (mg : Str → Option Value) (fD : Addr) : Prop extends Txt0 mg where
  gD : mg "_law_draw" = some (.ref fD)
  kD : PySem.W.keepIn K (.ref fD) = true
section
variable {P : Program} {w : World} {K : PySem.W.Frag} {mg : Str → Option Value} {base : Heap}
theorem scPick : FnScope ["_law_stream_here", "_law_things"] ["_law_stream_here", "_law_things"] (defScope sPick) := ⟨rfl, rfl, rfl, by decide +kernel, rfl, by decide +kernel, by decide +kernel⟩
theorem ok_pick {f fD : Addr} {fd fdD : FuncData} (F : Fun K "_law_pick" "_law_pick" sPick f fd) (T : Txt1 K mg fD) (FD : Fun K "_law_draw" "_law_draw" sDraw fD fdD) (bD : Binds K fdD ["_law_stream_here", "_law_many"] []) :
    FnOk P w K mg base CX0 2 f fd ["_law_stream_here", "_law_things"] (spPick K) := by
  have GD : FnOk P w K mg base CX0 1 fD fdD ["_law_stream_here", "_law_many"] spDraw := ok_draw FD T.toTxt0
  refine F.ok scPick (fun vs H Q E h => ?_) (fun cdv A outer s H vs Q E hr h => ?_)
  · obtain ⟨p, l, t, d, c, m, cells, xs, rfl, _⟩ := h
    rfl
  · obtain ⟨p, l, t, d, c, m, cells, xs, rfl, S, hc, ht, n1, n2, x1, x2, k⟩ := h
    refine ⟨_, pss_one (ps_ret (pe_ix ix_list (pv 1) (pe_call GD hr (by rfl) T.gD T.kD bD .nil pass0 (pa_cons (pv 0) (pa_cons (pe_callB call_len_seq (by rfl) T.len PySem.boot_len (pa_cons (pv 1) pa_nil)) pa_nil))) (fun _ _ => rfl))), ?_⟩
    refine ⟨_, rfl, _, rfl, _, rfl, t, xs, rfl, .inl (SqL.of ht), p, l, d, c, m, (xs.length : Int), cells, rfl, S, hc, by omega, by omega, fun H' d' m' cells' n B S' h1 h2 => ?_⟩
    have e : (n.toNat : Int) = n := Int.toNat_of_nonneg h1
    have hj : n.toNat < xs.length := by omega
    obtain ⟨x, q⟩ : ∃ x, xs[n.toNat]? = some x := ⟨_, List.getElem?_eq_getElem hj⟩
    exact ⟨t, xs, n, x, rfl, rfl, SqL.of (B _ _ n1 n2 ht), e ▸ atI_nat q, k _ _ _ _ _ _ B S' q⟩
end
end OA
/-! An own error class called with positional arguments and with keywords. -/
namespace OE
open PySem PySem.W PySem.Calls PyProof.Rows PySem.HandSPX
section
variable {M : Model} {A : Around} {E : Value → Shared → Prop} {hp : Heap} {g : Array GenState} {d : Drawn} {t : Nat} {os : OsState}
variable {nm q : Str} {C N : Addr} {bs bm bmB : List Value} {hdct : Bool} {sn : List Str} {sub : List Value} {ab : Bool} {col : Option Bool} {dd : Option Addr} {k0 k1 k2 k3 k5 : Option Value} {B newId initId : String}
variable {xs : List Value} {kw : List (Str × Value)}
theorem chk_call {Q : Unit → Shared → Prop} (oC : hp.get? C = some (excClassObj nm q C N bs bm hdct sn sub ab col dd k0 k1 k2 k3 k5 newId)) (z : Q () ⟨hp, g, d, t, os⟩) : wpAny M A (checkBuiltinCall "type.__call__" ⟨.ref C :: xs, kw⟩) Q E ⟨hp, g, d, t, os⟩ := by
  have w3 := tc_sub
  have wT : (⟨hp, g, d, t, os⟩ : Shared).TypeIs (.ref C) "type" := ⟨_, oC, rfl⟩
  simp only [checkBuiltinCall, tc_kind, tc_split]
  repeat (any_goals (first | assumption | with_reducible refine wpAny_loadPart_at oC ?_ | with_reducible refine wpAny_onRaise ?_ | with_reducible refine wpAny_map ?_ | wp_step))
theorem chk_new (F : ExcBaseFacts B newId initId bmB) (hT : ∀ Y : String, bm.contains (.type Y) = bmB.contains (.type Y)) {Q : Unit → Shared → Prop}
    (oC : hp.get? C = some (excClassObj nm q C N bs bm hdct sn sub ab col dd k0 k1 k2 k3 k5 newId)) (z : Q () ⟨hp, g, d, t, os⟩) : wpAny M A (checkBuiltinCall newId ⟨.ref C :: xs, kw⟩) Q E ⟨hp, g, d, t, os⟩ := by
  have inB : (Value.ref C :: bm).contains (.type B) = true := by
    rw [List.contains_cons, hT, F.hasB]
    exact Bool.or_true _
  have w1 := F.noStar
  simp only [checkBuiltinCall, F.newKind, F.newSplit, F.newRow]
  repeat (first | refine wpAny_loadPart_at oC ?_ | (refine wpAny_isSubtype_exc oC ?_; rw [inB]) | refine wpAny_staticBase_exc oC ?_ | refine wpAny_madeBy_exc oC ?_ | simp only [bne_self_eq_false, Bool.false_eq_true, if_false] | wp_step)
  all_goals first | exact z | skip
end
end OE
namespace OE
open PySem PySem.W PySem.Calls PyProof.Rows PySem.HandSPX
section
variable {prog : Program} {w : World} {A : Around} {E : Value → Shared → Prop} {R : Result → Shared → Prop} {hp : Heap} {g : Array GenState} {d : Drawn} {t : Nat} {os : OsState}
variable {nm q : Str} {C N : Addr} {bs bm bmB : List Value} {hdct : Bool} {sn : List Str} {sub : List Value} {ab : Bool} {col : Option Bool} {dd : Option Addr} {k0 k1 k2 k3 k5 : Option Value} {B newId initId : String}
variable {xs : List Value} {kw : List (Str × Value)}
/-- the heap behind __new__ -/
abbrev newHp (hp : Heap) (C : Addr) (xs : List Value) : Heap := (hp.push (W.kdv_tup xs)).push (excO C hp.objs.size)
theorem run_new (F : ExcBaseFacts B newId initId bmB) (hT : ∀ Y : String, bm.contains (.type Y) = bmB.contains (.type Y)) (oC : hp.get? C = some (excClassObj nm q C N bs bm hdct sn sub ab col dd k0 k1 k2 k3 k5 newId)) (hl : xs.length ≤ sizeLine)
    (z : R (.ok (.ret (.ref (hp.objs.size + 1)))) ⟨newHp hp C xs, g, d, t, os⟩) : codeAny (model prog w) A (.builtin newId ⟨.ref C :: xs, kw⟩) R ⟨hp, g, d, t, os⟩ := by
  have w1 := F.ends
  have inB : (Value.ref C :: bm).contains (.type B) = true := by
    rw [List.contains_cons, hT, F.hasB]
    exact Bool.or_true _
  have notA : (Value.ref C :: bm).contains (.type "AttributeError") = false := by rw [List.contains_cons, hT, F.noAttr] <;> rfl
  have notN : (Value.ref C :: bm).contains (.type "NameError") = false := by rw [List.contains_cons, hT, F.noName] <;> rfl
  refine codeAny_builtinAt F.entry ?_
  unfold Builtin.«BaseException.__new__»
  refine _root_.PySem.wpAt_bind ?_; show _root_.PySem.wpAt _ _ _ (stack >>= _) _ _ _
  refine _root_.PySem.wpAt_bind (_root_.PySem.wpAt_stack fun p l => _root_.PySem.wpAt_of_wpAny ?_)
  wp_walk
  refine _root_.PySem.wpAt_of_wpAny ?_
  rw [F.owner]
  repeat (first | with_reducible refine wpAny_madeHere_exc F.canon oC ?_ | with_reducible refine wpAny_loadPart_at oC ?_ | (with_reducible refine wpAny_isSubtype_exc oC ?_; first | rw [inB] | rw [notA] | rw [notN]) | wp_step)
  show R _ _
  rw [Heap.size_push]
  exact z
theorem run_typeCall {fI : Addr} {Q : Fin → Shared → Prop} (F : ExcBaseFacts B newId initId bmB) (hT : ∀ Y : String, bm.contains (.type Y) = bmB.contains (.type Y)) (oC : hp.get? C = some (excClassObj nm q C N bs bm hdct sn sub ab col dd k0 k1 k2 k3 k5 newId)) (hl : xs.length ≤ sizeLine)
    (li : W.Looks (model prog w) hp (typeLookup (.ref C) "__init__") (some (.ref fI))) (lb : ∀ self, W.Looks (model prog w) hp (bindSpecial (.ref fI) self) (.ref fI, [self]))
    (z : codeAny (model prog w) A (.call (.ref fI) ⟨.ref (hp.objs.size + 1) :: xs, kw⟩) (fun r s' => match r with | .ok (.ret v) => v = .none ∧ Q (.done (.ret (.ref (hp.objs.size + 1)))) s' | .ok _ => False | .error e => E e s') ⟨newHp hp C xs, g, d, t, os⟩) :
    wpAny (model prog w) A (Builtin.«type.__call__» ⟨.ref C :: xs, kw⟩) Q E ⟨hp, g, d, t, os⟩ := by
  repeat (first | with_reducible refine wpAny_loadPart_at oC ?_ | with_reducible refine wpAny_madeBy_exc oC ?_ | wp_step)
  refine codeAny_call_builtin_code (Code.quiet_builtin _ F.quiet) (chk_new F hT oC (run_new F hT oC hl ?_))
  show wpAny _ _ _ _ _ _
  have kp : ∀ b o, hp.get? b = some o → (newHp hp C xs).get? b = some o := fun b o e => Heap.get?_push_of_some _ (Heap.get?_push_of_some _ e)
  have oC' := kp _ _ oC
  have ox : (newHp hp C xs).get? (hp.objs.size + 1) = some (excO C hp.objs.size) := by heap_get
  have inC : (Value.ref C :: bm).contains (.ref C) = true := by simp
  have li' := li.keeps kp
  have lb' := (lb (.ref (hp.objs.size + 1))).keeps kp
  unfold isInstance
  repeat (first | with_reducible refine wpAny_loadPart_at ox ?_ | (with_reducible refine wpAny_isSubtype_exc oC' ?_; rw [inC]) | wp_step)
  show wpAny _ _ (typeLookup (.ref C) _) _ _ _
  refine li'.at (wpAny_holding (wpAny_bind (lb'.at (wpAny_bind (wpAny_call (codeAny_mono z fun r s' y => ?_))))))
  cases r with
  | error e => exact y
  | ok fl =>
    cases fl with
    | ret v =>
      have y' : v = .none ∧ Q (.done (.ret (.ref (hp.objs.size + 1)))) s' := y
      obtain ⟨e0, y2⟩ := y'
      subst e0
      first | exact wpAny_pure (wpAny_pure y2) | (wp_walk; try exact y2)
    | next => exact (show False from y).elim
    | brk => exact (show False from y).elim
    | cont => exact (show False from y).elim
/-- C(*xs, **kw) of an own error class with an own __init__ -/
theorem call_any {fI : Addr} (F : ExcBaseFacts B newId initId bmB) (hT : ∀ Y : String, bm.contains (.type Y) = bmB.contains (.type Y)) (oC : hp.get? C = some (excClassObj nm q C N bs bm hdct sn sub ab col dd k0 k1 k2 k3 k5 newId)) (hl : xs.length ≤ sizeLine)
    (li : W.Looks (model prog w) hp (typeLookup (.ref C) "__init__") (some (.ref fI))) (lb : ∀ self, W.Looks (model prog w) hp (bindSpecial (.ref fI) self) (.ref fI, [self]))
    (z : codeAny (model prog w) (A.under (.builtin "type.__call__" ⟨.ref C :: xs, kw⟩)) (.call (.ref fI) ⟨.ref (hp.objs.size + 1) :: xs, kw⟩) (W.InitBack (hp.objs.size + 1) R) ⟨newHp hp C xs, g, d, t, os⟩) :
    codeAny (model prog w) A (.call (.ref C) ⟨xs, kw⟩) R ⟨hp, g, d, t, os⟩ := by
  have w1 := tc_lookup
  have w2 := tc_bind (.ref C)
  have wT : (⟨hp, g, d, t, os⟩ : Shared).TypeIs (.ref C) "type" := ⟨_, oC, rfl⟩
  refine codeAny_of_tree ?_; show wpAny _ _ (callAny (.ref C) _) _ _ _
  repeat (any_goals (first | assumption | with_reducible refine wpAny_loadPart_at oC ?_ | wp_step))
  refine ⟨rfl, codeAny_call_builtin_at (Code.quiet_builtin _ (by decide +kernel)) entry_typeCall (chk_call oC (run_typeCall F hT oC hl li lb (codeAny_mono z fun r s' y => ?_)))⟩
  rcases r with e | (v | _ | _ | _) <;> exact y
end
end OE
/-! An own error class over an own class over ValueError, whose __init__ says super().__init__(text) and keeps one thing. -/
namespace OE
open PySem PySem.W PySem.Calls PyProof.Rows PySem.HandSPX
/-! ### the text of __init__ -/
def eA (f : Str) (p1 p2 : Pos) : Arguments := { posonlyargs := [], args := [{ arg := "self", annotation := none, pos := p1 }, { arg := f, annotation := none, pos := p2 }], vararg := none, kwonlyargs := [], kw_defaults := [], kwarg := none, defaults := [] }
def eB0 (tx : Str) (a b c d e e' : Pos) : Stmt := .Expr (.Call (.Attribute (.Call (.Name "super" a) [] [] b) "__init__" c) [.Constant (.str tx) 0 d] [] e) e'
def eB1 (f : Str) (g h i j : Pos) : Stmt := .Assign [.Attribute (.Name "self" g) f h] (.Name f i) j
def eS (f : Str) : Scope := { kind := .function, names := [(PySem.Str.ofString "self", .local), (f, .local), (PySem.Str.ofString "__class__", .free), (PySem.Str.ofString "super", .globalImplicit)], isGenerator := false, isCoroutine := false, more := [] }
/-- what the written part says of the class at C, and of its __init__, at fI -/
structure Cl1 (P : Program) (K : Frag) (C fI : Addr) (f : Str) : Prop where
  cls : ∃ nm q N bs bm sn sub ab col dd k0 k1 k2 k3 k5, K.lookup C = some (excClassObj nm q C N bs bm true sn sub ab col dd k0 k1 k2 k3 k5 "ValueError.__new__") ∧ refsVE bm = true
  sa : findIn K (.ref C) "__setattr__" = some (some (.builtin "object.__setattr__"))
  noF : findIn K (.ref C) f = some none
  iC : findIn K (.ref C) "__init__" = some (some (.ref fI))
  tC : typeIn K (.ref fI) = some (.type "function")
  sup : ks_superIn K C C "__init__" = some (some (.builtin "ValueError.__init__"))
  sub : mroIn K C (.ref C) = some true
  exI : excInitIn K C [.type "ValueError", .type "Exception", .type "BaseException", .type "object"] "ValueError.__new__" = true
  subV : subIn K (.ref C) (.type "ValueError") = some true
  opq : nsIn K cStatics "thirdparty.any" = some none
  spr : nsIn K mainGlobals "super" = some none
  fn : ∃ (oc : Value) (od : Option Addr) (doc pm : Value) (an : Option Addr) (ct : Value) (osl : Array (Option Value)) (p1 p2 : Pos) (tx : Str) (a b c d e e' g h i j : Pos) (qual : Str) (cc cda : Addr) (vs : Array Value) (file : Str) (tf : Tok) (ccl cl : Value) (cdd cld : Option Addr) (ccs csl : Array (Option Value)),
    K.lookup fI = some ⟨oc, od, .func (fnX "__init__" qual (eA f p1 p2) [eB0 tx a b c d e e', eB1 f g h i j] (eS f) [("__class__", cc)] .none .none doc pm an (.ref cda) ct), osl⟩ ∧ codeIn K (.ref cda) qual = true ∧
    (c.endLine == e.line) = true ∧ K.lookup cda = some ⟨ccl, cdd, .fields vs, ccs⟩ ∧ vs[2]? = some (.str file tf) ∧ ((P.main.file : Str) == file) = true ∧ K.lookup cc = some ⟨cl, cld, .cell (some (.ref C)), csl⟩
  fok : (f == ("self" : Str)) = false ∧ (f == ("__class__" : Str)) = false ∧ (f == ("super" : Str)) = false ∧ (f == ("__debug__" : Str)) = false
theorem he_of {env : Env} {o : Expr} {x tx : Str} {c d e : Pos} (hl : (c.endLine == e.line) = true) :
    eval (.Call (.Attribute o x c) [.Constant (.str tx) 0 d] [] e) env = (do
        let ov ← attributeBase o x env (eval o env)
        standAt c.atName
        let (f, first) ← holding [ov] (getMethod ov x (do return (← importBound o env).getD true))
        callWith e f first (backTo e (starEach [.Constant (.str tx) 0 d] env)) []) := by
  have hpos : methodCallPos true o env c e = pure e := by unfold methodCallPos; simp [hl]
  have hform : methodCallForm ([Expr.Constant (.str tx) 0 d].length + ([] : List Keyword).length) (backTo e (starEach [.Constant (.str tx) 0 d] env)) (backToKw e (keywordEach [] env)) = true := by rfl
  rw [arm_eval_Call]
  unfold methodCall
  rw [hform, hpos]
  rfl
/-- what __init__ leaves of a fresh exception at x -/
structure InitEnd (h h' : Heap) (x C dx t1 : Addr) (f : Str) (v : Value) : Prop where
  keep : ∀ b o, b ≠ x → h.get? b = some o → h'.get? b = some o
  obj : h'.get? x = some { cls := .ref C, dict := some dx, data := .fields #[.ref t1, .none, .none, .none, .bool false, .none] }
  dbig : h.objs.size ≤ dx
  dne : dx ≠ x
  ns : h'.Ns1 dx (fun y => if y = f then some v else none)
section
variable {P : Program} {w : World} {A : Around} {E : Value → Shared → Prop} {R : Result → Shared → Prop} {s : Shared} {K : Frag} {mg mb : Str → Option Value} {C fI : Addr} {f : Str}
theorem init1 (T : Cl1 P K C fI f) {x t0 : Addr} {v : Value} {args : Args} (X : K.In s.heap) (hg : s.heap.Ns mainGlobals mg) (hb : s.heap.Ns builtinsNs mb) (hbi : ∀ x : Str, x ≠ "__name__" → mb x = bootBuiltins x) (htop : (P.main.scope.names.lookup ("super" : Str)).isSome = false)
    (hlim : s.heap.NoLimit) (hx : s.heap.get? x = some (excO C t0)) (hnx : K.lookup x = none) (hroom : A.depth < recursionLimit)
    (hbind : ∀ fd : FuncData, (∃ p1 p2, fd.params = eA f p1 p2) → fd.defaults = .none → fd.kwdefaults = .none → BindsTo s fd args [("self", .ref x), (f, v)])
    (hq : ∀ h' tk dx t1, InitEnd s.heap h' x C dx t1 f v → R (.ok (.ret .none)) { s with heap := h', toks := tk }) :
    codeAny (model P w) A (.call (.ref fI) args) R s := by
  obtain ⟨oc, od, doc, pm, an, ct, osl, p1, p2, tx, a, b, c, d, e, e', g, h, i, j, qual, cc, cda, vs, file, tf, ccl, cl, cdd, cld, ccs, csl, ho, hcd, hline, hcode, hvs, hfile, hcell⟩ := T.fn
  obtain ⟨nm, q, N, bs, bm, sn, sub, ab, col, dd, k0, k1, k2, k3, k5, hC, hbm⟩ := T.cls
  obtain ⟨n1, n2, n3, n4⟩ := T.fok
  have hcl : clsIn K C = some { name := nm, bases := bs, mro := .ref C :: bm, ns := N, qualname := q, hasDict := true, slotNames := sn, subclasses := sub, abstract := ab, collection := col, hasDel := false } := by unfold clsIn; rw [hC] <;> rfl
  have lself : (eS f).names.lookup ("self" : Str) = some .local := by simp [eS, List.lookup]
  have lf : (eS f).names.lookup f = some .local := by simp [eS, List.lookup, n1]
  have lsup : (eS f).names.lookup ("super" : Str) = some .globalImplicit := by
    have z : (("super" : Str) == f) = false := by rw [beq_eq_false_iff_ne]; intro q; rw [← q] at n3; exact absurd n3 (by decide +kernel)
    have z1 : (("super" : Str) == PySem.Str.ofString "self") = false := by decide +kernel
    have z2 : (("super" : Str) == PySem.Str.ofString "__class__") = false := by decide +kernel
    simp [eS, List.lookup, z, z1, z2]
  have lcls : (eS f).names.lookup ("__class__" : Str) = some .free := by
    have z : (("__class__" : Str) == f) = false := by rw [beq_eq_false_iff_ne]; intro q; rw [← q] at n2; exact absurd n2 (by decide +kernel)
    have z1 : (("__class__" : Str) == PySem.Str.ofString "self") = false := by decide +kernel
    simp [eS, List.lookup, z, z1]
  have n1' : (("self" : Str) == f) = false := by rw [beq_eq_false_iff_ne]; exact fun q => (beq_eq_false_iff_ne.mp n1) q.symm
  have e1 : ([("self", Value.ref x), (f, v)] : List (Str × Value)).reverse.lookup ("self" : Str) = some (Value.ref x) := by simp [List.lookup, n1']
  have e2 : ([("self", Value.ref x), (f, v)] : List (Str × Value)).reverse.lookup f = some v := by simp [List.lookup]
  refine ks_codeAny_call_defAt (fd := fnX "__init__" qual (eA f p1 p2) [eB0 tx a b c d e e', eB1 f g h i j] (eS f) [("__class__", cc)] .none .none doc pm an (.ref cda) ct) (body := [eB0 tx a b c d e e', eB1 f g h i j]) (binds := [("self", .ref x), (f, v)])
    hroom (X _ _ ho) rfl hlim (codeRec_of X hcd) rfl (hbind _ ⟨_, _, rfl⟩ rfl rfl) ?_ ?_ (fun h₁ hns hk₁ => ?_)
  · intro y hy
    have z : (eS f).names = [(PySem.Str.ofString "self", .local), (f, .local), (PySem.Str.ofString "__class__", .free), (PySem.Str.ofString "super", .globalImplicit)] := rfl
    rw [show (fnX "__init__" qual (eA f p1 p2) [eB0 tx a b c d e e', eB1 f g h i j] (eS f) [("__class__", cc)] .none .none doc pm an (.ref cda) ct).scope.names = _ from z] at hy
    simp only [List.mem_cons, List.not_mem_nil, or_false] at hy
    rcases hy with rfl | rfl | rfl | rfl <;> exact fun z => nomatch z
  · intro y hy
    simp only [List.mem_cons, List.not_mem_nil, or_false] at hy
    rcases hy with rfl | rfl
    · exact lself
    · exact lf
  have X₁ : K.In h₁ := X.keeps hk₁
  have hx₁ := hk₁ _ _ hx
  have hxL : s.heap.objs.size ≠ x := Nat.ne_of_gt (Heap.lt_size hx)
  obtain ⟨hp, gs, dr, tk, os⟩ := s
  refine ks_wpAt_execs_cons ?_
  show _root_.PySem.wpAt _ _ _ (exec (.Expr (.Call (.Attribute (.Call (.Name "super" a) [] [] b) "__init__" c) [.Constant (.str tx) 0 d] [] e) e') _) _ _ _
  refine ks_wpAt_Expr_any ?_ (by rfl) (by rfl)
  refine ks_wpAt_MethodCall (pl := (do return (← importBound (.Call (.Name "super" a) [] [] b) (callEnv (fnX "__init__" qual (eA f p1 p2) [eB0 tx a b c d e e', eB1 f g h i j] (eS f) [("__class__", cc)] .none .none doc pm an (.ref cda) ct) hp.objs.size fI)).getD true)) ?_ (he_of hline)
  have hClo : h₁.get? C = some _ := X₁ _ _ hC
  -- super()
  refine ks_wpAt_super_base (env := callEnv (fnX "__init__" qual (eA f p1 p2) [eB0 tx a b c d e e', eB1 f g h i j] (eS f) [("__class__", cc)] .none .none doc pm an (.ref cda) ct) hp.objs.size fI) lsup lcls (by decide +kernel) rfl (X₁ _ _ ho) rfl rfl rfl (X₁ _ _ hcode) rfl hvs hfile htop ?_
  refine ks_loadName_global rfl lsup (loadGlobal_builtin (env := callEnv (fnX "__init__" qual (eA f p1 p2) [eB0 tx a b c d e e', eB1 f g h i j] (eS f) [("__class__", cc)] .none .none doc pm an (.ref cda) ct) hp.objs.size fI) (hg.keeps hk₁) (mg_none_of X hg T.spr) (hb.keeps hk₁) ((hbi _ (by decide +kernel)).trans (by decide +kernel)) ⟨rfl, ?_⟩)
  refine wpAny_loadName_free rfl lcls rfl ⟨_, X₁ _ _ hcell, rfl⟩ ?_
  refine wpAny_loadName_local (v := .ref x) rfl lself hns e1 ?_
  refine ks_wpAny_isType_cls hClo rfl ⟨rfl, ?_⟩
  refine ks_wpAny_call_super hClo rfl hx₁ rfl (fun c e => nomatch e) (looks_mroIn X₁ T.sub) (fun h₂ hso k₂ => ?_)
  have X₂ : K.In h₂ := X₁.keeps k₂
  have hx₂ := k₂ _ _ hx₁
  have I₂ : InstAt h₂ x (excO C t0) C none := ⟨hx₂, rfl, rfl, trivial⟩
  have hxC : x ≠ C := fun z => by rw [z, hC] at hnx; cases hnx
  -- .__init__
  refine kxs_getMethod kxs_ValueError hso (looks_opaque X₂ T.opq) (l₀ := .ref C :: bm) (l := ((Value.ref C :: bm).dropWhile (· != .ref C)).drop 1) (fun A Q E s k q => wpAny_bind ((looks_clsIn X₂ hcl) A _ E s k (wpAny_pure q))) rfl X₂ ?_ (I₂.type.andThen (looks_subIn X₂ T.subV)) hxC (by decide +kernel) ?_
  · have z := T.sup
    unfold ks_superIn at z
    rw [hcl] at z
    exact z
  -- its call
  show wpAny _ _ (callWith e (.ref h₂.objs.size) [] (backTo e (starEach [.Constant (.str tx) 0 d] _)) []) _ _ _
  have hso₃ : (h₂.push (kxs_mw "ValueError.__init__" x)).get? h₂.objs.size = some (kxs_mw "ValueError.__init__" x) := Heap.get?_push_at rfl rfl
  have hx₃ : (h₂.push (kxs_mw "ValueError.__init__" x)).get? x = some (excO C t0) := Heap.get?_push_of_some _ hx₂
  refine kxs_callWith (i := "ValueError.__init__") (x := x) rfl (evalArgs_plain (spliced_cons (Calls.Constant_str (pos := d) (k := 0) (spliced_nil ⟨hso₃, ?_⟩))))
  show wpAny _ _ (call (.ref h₂.objs.size) [_]) _ _ _
  -- all that stood at the entry but x is the base of the walk
  have hb0 : ∀ y o, hp.get? y = some o → y ≠ x → (hideAll hp [x]).get? y = some o := fun y o z n => hideAll_get _ z (by simpa using n)
  have hb1 : ∀ y o, (hideAll hp [x]).get? y = some o → hp.get? y = some o ∧ y ≠ x := fun y o z => ⟨of_hideAll _ z, fun q => by rw [q, hideAll_none _ (by simp)] at z; cases z⟩
  have X0 : K.In (hideAll hp [x]) := fun y o z => hb0 y o (X y o z) fun q => by rw [q, hnx] at z; cases z
  have k₃ : ∀ y o, h₁.get? y = some o → (h₂.push (kxs_mw "ValueError.__init__" x)).get? y = some o := fun y o z => Heap.get?_push_of_some _ (k₂ y o z)
  have F₃ : Fr (hideAll hp [x]) hp.objs.size (h₂.push (kxs_mw "ValueError.__init__" x)) _ := ⟨hns.at fun o q => k₃ _ o q, fun y o z => k₃ y o (hk₁ y o (hb1 y o z).1), by rw [hideAll_size]; exact Nat.le_refl _⟩
  have n2 : ∀ y, hp.objs.size ≤ y → (hideAll hp [x]).get? y = none := fun y n => by
    cases z : (hideAll hp [x]).get? y with
    | none => rfl
    | some o => exact absurd (Heap.lt_size (hb1 y o z).1) (Nat.not_lt.mpr n)
  have l2 : hp.objs.size < h₂.objs.size := Heap.lt_size (k₂ _ _ hns.choose_spec.choose_spec.choose_spec.1)
  have ux : h₂.objs.size ≠ x := fun q => absurd (Heap.lt_size hx) (by rw [← q]; exact Nat.not_lt.mpr (Nat.le_of_lt l2))
  have N₃ : News (hideAll hp [x]) hp.objs.size (h₂.push (kxs_mw "ValueError.__init__" x)) [(h₂.objs.size, kxs_mw "ValueError.__init__" x), (x, excObj C t0 none .none)] := by
    intro p hp'
    rcases List.mem_cons.mp hp' with rfl | hp'
    · exact ⟨hso₃, Nat.ne_of_gt l2, n2 _ (Nat.le_of_lt l2)⟩
    · obtain rfl := List.mem_singleton.mp hp'
      exact ⟨hx₃, hxL.symm, hideAll_none _ (by simp)⟩
  refine kxs_call (i := "ValueError.__init__") (c2 := .none) F₃ X0 N₃ F.excBase_ValueError T.exI (List.mem_cons_self ..) (.tail ux (.head (fun p hp => nomatch hp))) (by show 1 ≤ sizeLine; rw [sizeLine_eq]; decide) (fun t1 h₄ F₄ N₄ _ => ?_)
  have hx₄ : h₄.get? x = some (excO C t1) := (N₄ (x, excObj C t1 none .none) (by simp)).1
  have kk : ∀ b o, b ≠ x → hp.get? b = some o → h₄.get? b = some o := fun b o n z => F₄.keep b o (hb0 b o z n)
  -- self.f = f
  refine ks_wpAt_execs_cons (_root_.PySem.wpAt_of_wpAny ?_)
  have X₄ : K.In h₄ := X0.keeps F₄.keep
  have hns₄ : h₄.Ns hp.objs.size _ := F₄.ns
  show wpAny _ _ (exec (.Assign [.Attribute (.Name "self" g) f h] (.Name f i) j) _) _ _ _
  refine plainObj_wpAny_Assign_Attribute (wpAny_Name (wpAny_loadName_local (v := v) rfl lf hns₄ e2 (wpAny_Name (wpAny_loadName_local (v := .ref x) rfl lself hns₄ e1 ?_) (by decide +kernel))) n4) (by rfl)
  refine set_plain X₄ (ox := excO C t1) (od := none) ⟨hx₄, rfl, rfl, trivial⟩ T.sa ?_
  refine exc_osa X₄ hx₄ hcl (show refsVE (.ref C :: bm) = true from hbm) rfl T.noF (fun h₅ tk₅ dx k₅ dn dne hx₅ hn₅ => ?_)
  refine _root_.PySem.wpAt_of_wpAny (wpAny_execs_nil (hq h₅ tk₅ dx t1 ⟨fun b o n z => k₅ b o n (kk b o n z), hx₅, Nat.le_of_lt (Nat.lt_of_lt_of_le hns₄.lt dn), dne, hn₅⟩))
end
end OE
/-! The same without a field: __init__(self) with super().__init__(text). -/
namespace OE
open PySem PySem.W PySem.Calls PyProof.Rows PySem.HandSPX
def eA0 (p1 : Pos) : Arguments := { posonlyargs := [], args := [{ arg := "self", annotation := none, pos := p1 }], vararg := none, kwonlyargs := [], kw_defaults := [], kwarg := none, defaults := [] }
def eS0 : Scope := { kind := .function, names := [(PySem.Str.ofString "self", .local), (PySem.Str.ofString "__class__", .free), (PySem.Str.ofString "super", .globalImplicit)], isGenerator := false, isCoroutine := false, more := [] }
/-- what the written part says of the class at C, and of its __init__, at fI -/
structure Cl0 (P : Program) (K : Frag) (C fI : Addr) : Prop where
  cls : ∃ nm q N bs bm sn sub ab col dd k0 k1 k2 k3 k5, K.lookup C = some (excClassObj nm q C N bs bm true sn sub ab col dd k0 k1 k2 k3 k5 "ValueError.__new__") ∧ refsVE bm = true
  iC : findIn K (.ref C) "__init__" = some (some (.ref fI))
  tC : typeIn K (.ref fI) = some (.type "function")
  sup : ks_superIn K C C "__init__" = some (some (.builtin "ValueError.__init__"))
  sub : mroIn K C (.ref C) = some true
  exI : excInitIn K C [.type "ValueError", .type "Exception", .type "BaseException", .type "object"] "ValueError.__new__" = true
  subV : subIn K (.ref C) (.type "ValueError") = some true
  opq : nsIn K cStatics "thirdparty.any" = some none
  spr : nsIn K mainGlobals "super" = some none
  fn : ∃ (oc : Value) (od : Option Addr) (doc pm : Value) (an : Option Addr) (ct : Value) (osl : Array (Option Value)) (p1 : Pos) (tx : Str) (a b c d e e' : Pos) (qual : Str) (cc cda : Addr) (vs : Array Value) (file : Str) (tf : Tok) (ccl cl : Value) (cdd cld : Option Addr) (ccs csl : Array (Option Value)),
    K.lookup fI = some ⟨oc, od, .func (fnX "__init__" qual (eA0 p1) [eB0 tx a b c d e e'] eS0 [("__class__", cc)] .none .none doc pm an (.ref cda) ct), osl⟩ ∧ codeIn K (.ref cda) qual = true ∧
    (c.endLine == e.line) = true ∧ K.lookup cda = some ⟨ccl, cdd, .fields vs, ccs⟩ ∧ vs[2]? = some (.str file tf) ∧ ((P.main.file : Str) == file) = true ∧ K.lookup cc = some ⟨cl, cld, .cell (some (.ref C)), csl⟩
section
variable {P : Program} {w : World} {A : Around} {E : Value → Shared → Prop} {R : Result → Shared → Prop} {s : Shared} {K : Frag} {mg mb : Str → Option Value} {C fI : Addr}
theorem init0 (T : Cl0 P K C fI) {x t0 : Addr} {args : Args} (X : K.In s.heap) (hg : s.heap.Ns mainGlobals mg) (hb : s.heap.Ns builtinsNs mb) (hbi : ∀ x : Str, x ≠ "__name__" → mb x = bootBuiltins x) (htop : (P.main.scope.names.lookup ("super" : Str)).isSome = false)
    (hlim : s.heap.NoLimit) (hx : s.heap.get? x = some (excO C t0)) (hnx : K.lookup x = none) (hroom : A.depth < recursionLimit)
    (hbind : ∀ fd : FuncData, (∃ p1, fd.params = eA0 p1) → fd.defaults = .none → fd.kwdefaults = .none → BindsTo s fd args [("self", .ref x)])
    (hq : ∀ h' tk t1, (∀ b o, b ≠ x → s.heap.get? b = some o → h'.get? b = some o) → h'.get? x = some (excO C t1) → R (.ok (.ret .none)) { s with heap := h', toks := tk }) :
    codeAny (model P w) A (.call (.ref fI) args) R s := by
  obtain ⟨oc, od, doc, pm, an, ct, osl, p1, tx, a, b, c, d, e, e', qual, cc, cda, vs, file, tf, ccl, cl, cdd, cld, ccs, csl, ho, hcd, hline, hcode, hvs, hfile, hcell⟩ := T.fn
  obtain ⟨nm, q, N, bs, bm, sn, sub, ab, col, dd, k0, k1, k2, k3, k5, hC, hbm⟩ := T.cls
  have hcl : clsIn K C = some { name := nm, bases := bs, mro := .ref C :: bm, ns := N, qualname := q, hasDict := true, slotNames := sn, subclasses := sub, abstract := ab, collection := col, hasDel := false } := by unfold clsIn; rw [hC] <;> rfl
  have lself : eS0.names.lookup ("self" : Str) = some .local := by decide +kernel
  have lsup : eS0.names.lookup ("super" : Str) = some .globalImplicit := by decide +kernel
  have lcls : eS0.names.lookup ("__class__" : Str) = some .free := by decide +kernel
  have e1 : ([("self", Value.ref x)] : List (Str × Value)).reverse.lookup ("self" : Str) = some (Value.ref x) := by simp [List.lookup]
  refine ks_codeAny_call_defAt (fd := fnX "__init__" qual (eA0 p1) [eB0 tx a b c d e e'] eS0 [("__class__", cc)] .none .none doc pm an (.ref cda) ct) (body := [eB0 tx a b c d e e']) (binds := [("self", .ref x)])
    hroom (X _ _ ho) rfl hlim (codeRec_of X hcd) rfl (hbind _ ⟨_, rfl⟩ rfl rfl) ?_ ?_ (fun h₁ hns hk₁ => ?_)
  · intro y hy
    have z : eS0.names = [(PySem.Str.ofString "self", .local), (PySem.Str.ofString "__class__", .free), (PySem.Str.ofString "super", .globalImplicit)] := rfl
    rw [show (fnX "__init__" qual (eA0 p1) [eB0 tx a b c d e e'] eS0 [("__class__", cc)] .none .none doc pm an (.ref cda) ct).scope.names = _ from z] at hy
    simp only [List.mem_cons, List.not_mem_nil, or_false] at hy
    rcases hy with rfl | rfl | rfl <;> exact fun z => nomatch z
  · intro y hy
    simp only [List.mem_cons, List.not_mem_nil, or_false] at hy
    subst hy
    exact lself
  have X₁ : K.In h₁ := X.keeps hk₁
  have hx₁ := hk₁ _ _ hx
  have hxL : s.heap.objs.size ≠ x := Nat.ne_of_gt (Heap.lt_size hx)
  obtain ⟨hp, gs, dr, tk, os⟩ := s
  refine ks_wpAt_execs_cons ?_
  show _root_.PySem.wpAt _ _ _ (exec (.Expr (.Call (.Attribute (.Call (.Name "super" a) [] [] b) "__init__" c) [.Constant (.str tx) 0 d] [] e) e') _) _ _ _
  refine ks_wpAt_Expr_any ?_ (by rfl) (by rfl)
  refine ks_wpAt_MethodCall (pl := (do return (← importBound (.Call (.Name "super" a) [] [] b) (callEnv (fnX "__init__" qual (eA0 p1) [eB0 tx a b c d e e'] eS0 [("__class__", cc)] .none .none doc pm an (.ref cda) ct) hp.objs.size fI)).getD true)) ?_ (he_of hline)
  have hClo : h₁.get? C = some _ := X₁ _ _ hC
  -- super()
  refine ks_wpAt_super_base (env := callEnv (fnX "__init__" qual (eA0 p1) [eB0 tx a b c d e e'] eS0 [("__class__", cc)] .none .none doc pm an (.ref cda) ct) hp.objs.size fI) lsup lcls (by decide +kernel) rfl (X₁ _ _ ho) rfl rfl rfl (X₁ _ _ hcode) rfl hvs hfile htop ?_
  refine ks_loadName_global rfl lsup (loadGlobal_builtin (env := callEnv (fnX "__init__" qual (eA0 p1) [eB0 tx a b c d e e'] eS0 [("__class__", cc)] .none .none doc pm an (.ref cda) ct) hp.objs.size fI) (hg.keeps hk₁) (mg_none_of X hg T.spr) (hb.keeps hk₁) ((hbi _ (by decide +kernel)).trans (by decide +kernel)) ⟨rfl, ?_⟩)
  refine wpAny_loadName_free rfl lcls rfl ⟨_, X₁ _ _ hcell, rfl⟩ ?_
  refine wpAny_loadName_local (v := .ref x) rfl lself hns e1 ?_
  refine ks_wpAny_isType_cls hClo rfl ⟨rfl, ?_⟩
  refine ks_wpAny_call_super hClo rfl hx₁ rfl (fun c e => nomatch e) (looks_mroIn X₁ T.sub) (fun h₂ hso k₂ => ?_)
  have X₂ : K.In h₂ := X₁.keeps k₂
  have hx₂ := k₂ _ _ hx₁
  have I₂ : InstAt h₂ x (excO C t0) C none := ⟨hx₂, rfl, rfl, trivial⟩
  have hxC : x ≠ C := fun z => by rw [z, hC] at hnx; cases hnx
  -- .__init__
  refine kxs_getMethod kxs_ValueError hso (looks_opaque X₂ T.opq) (l₀ := .ref C :: bm) (l := ((Value.ref C :: bm).dropWhile (· != .ref C)).drop 1) (fun A Q E s k q => wpAny_bind ((looks_clsIn X₂ hcl) A _ E s k (wpAny_pure q))) rfl X₂ ?_ (I₂.type.andThen (looks_subIn X₂ T.subV)) hxC (by decide +kernel) ?_
  · have z := T.sup
    unfold ks_superIn at z
    rw [hcl] at z
    exact z
  -- its call
  show wpAny _ _ (callWith e (.ref h₂.objs.size) [] (backTo e (starEach [.Constant (.str tx) 0 d] _)) []) _ _ _
  have hso₃ : (h₂.push (kxs_mw "ValueError.__init__" x)).get? h₂.objs.size = some (kxs_mw "ValueError.__init__" x) := Heap.get?_push_at rfl rfl
  have hx₃ : (h₂.push (kxs_mw "ValueError.__init__" x)).get? x = some (excO C t0) := Heap.get?_push_of_some _ hx₂
  refine kxs_callWith (i := "ValueError.__init__") (x := x) rfl (evalArgs_plain (spliced_cons (Calls.Constant_str (pos := d) (k := 0) (spliced_nil ⟨hso₃, ?_⟩))))
  show wpAny _ _ (call (.ref h₂.objs.size) [_]) _ _ _
  -- all that stood at the entry but x is the base of the walk
  have hb0 : ∀ y o, hp.get? y = some o → y ≠ x → (hideAll hp [x]).get? y = some o := fun y o z n => hideAll_get _ z (by simpa using n)
  have hb1 : ∀ y o, (hideAll hp [x]).get? y = some o → hp.get? y = some o ∧ y ≠ x := fun y o z => ⟨of_hideAll _ z, fun q => by rw [q, hideAll_none _ (by simp)] at z; cases z⟩
  have X0 : K.In (hideAll hp [x]) := fun y o z => hb0 y o (X y o z) fun q => by rw [q, hnx] at z; cases z
  have k₃ : ∀ y o, h₁.get? y = some o → (h₂.push (kxs_mw "ValueError.__init__" x)).get? y = some o := fun y o z => Heap.get?_push_of_some _ (k₂ y o z)
  have F₃ : Fr (hideAll hp [x]) hp.objs.size (h₂.push (kxs_mw "ValueError.__init__" x)) _ := ⟨hns.at fun o q => k₃ _ o q, fun y o z => k₃ y o (hk₁ y o (hb1 y o z).1), by rw [hideAll_size]; exact Nat.le_refl _⟩
  have n2 : ∀ y, hp.objs.size ≤ y → (hideAll hp [x]).get? y = none := fun y n => by
    cases z : (hideAll hp [x]).get? y with
    | none => rfl
    | some o => exact absurd (Heap.lt_size (hb1 y o z).1) (Nat.not_lt.mpr n)
  have l2 : hp.objs.size < h₂.objs.size := Heap.lt_size (k₂ _ _ hns.choose_spec.choose_spec.choose_spec.1)
  have ux : h₂.objs.size ≠ x := fun q => absurd (Heap.lt_size hx) (by rw [← q]; exact Nat.not_lt.mpr (Nat.le_of_lt l2))
  have N₃ : News (hideAll hp [x]) hp.objs.size (h₂.push (kxs_mw "ValueError.__init__" x)) [(h₂.objs.size, kxs_mw "ValueError.__init__" x), (x, excObj C t0 none .none)] := by
    intro p hp'
    rcases List.mem_cons.mp hp' with rfl | hp'
    · exact ⟨hso₃, Nat.ne_of_gt l2, n2 _ (Nat.le_of_lt l2)⟩
    · obtain rfl := List.mem_singleton.mp hp'
      exact ⟨hx₃, hxL.symm, hideAll_none _ (by simp)⟩
  refine kxs_call (i := "ValueError.__init__") (c2 := .none) F₃ X0 N₃ F.excBase_ValueError T.exI (List.mem_cons_self ..) (.tail ux (.head (fun p hp => nomatch hp))) (by show 1 ≤ sizeLine; rw [sizeLine_eq]; decide) (fun t1 h₄ F₄ N₄ _ => ?_)
  have hx₄ : h₄.get? x = some (excO C t1) := (N₄ (x, excObj C t1 none .none) (by simp)).1
  have kk : ∀ b o, b ≠ x → hp.get? b = some o → h₄.get? b = some o := fun b o n z => F₄.keep b o (hb0 b o z n)
  exact _root_.PySem.wpAt_of_wpAny (wpAny_execs_nil (hq h₄ _ t1 kk hx₄))
end
end OE
namespace OE
open PySem PySem.Spec PyProof.Rows L2
/-! ### two new objects at once -/
section
variable {P : Program} {w : World} {fs ex : List Addr} {H : Hp} {h h' : Heap} {a b : Addr} {o u : HO}
theorem upd2_at {x : Addr} (ha : H a = none) (hb : H b = none) {v : HO} (e : H x = some v) : upd (upd H b u) a o x = some v := by
  rw [upd_ne (ne_of_none e ha), upd_ne (ne_of_none e hb)]
  exact e
theorem un2 (k : ∀ x z, h.get? x = some z → h'.get? x = some z) (na : h.get? a = none) (nb : h.get? b = none) (ha : H a = none) (hb : H b = none) : Un fs ex H (upd (upd H b u) a o) h h' := by
  have out : ∀ x z, h.get? x = some z → x ≠ a ∧ x ≠ b := fun x z e => ⟨fun q => (by rw [q, na] at e; cases e), fun q => (by rw [q, nb] at e; cases e)⟩
  constructor
  · exact fun x z e _ _ _ => k x z e
  · exact fun x z e _ _ _ => ⟨z.slots, k x z e⟩
  · intro x z e n _
    rw [upd_ne (out x z e).1, upd_ne (out x z e).2]
    exact n
  · exact fun x z e _ => ⟨z, k x z e⟩
  · exact fun x xs e => upd2_at ha hb e
  · exact fun x z v e => upd2_at ha hb e
  · exact fun x ps e => ⟨#[], by rw [upd2_at ha hb e]; simp⟩
theorem hok2 (ok : HOk P w H h) (k : ∀ x z, h.get? x = some z → h'.get? x = some z) (ha : H a = none) (hb : H b = none) (na : ObjOk P w (upd (upd H b u) a o) h' a o) (nb : ObjOk P w (upd (upd H b u) a o) h' b u) : HOk P w (upd (upd H b u) a o) h' := by
  intro x v e
  by_cases xa : x = a
  · subst xa
    rw [upd_same] at e
    cases e
    exact na
  · by_cases xb : x = b
    · subst xb
      rw [upd_ne xa, upd_same] at e
      cases e
      exact nb
    · rw [upd_ne xa, upd_ne xb] at e
      exact (ok x v e).stay (fun c z _ q => k c z q) (fun c q => upd2_at ha hb q) fun c xs q => upd2_at ha hb q
end
/-! ### an error as a value -/
/-- the error at a, of the class at C, keeps v as f -/
def Kept (H : Hp) (a C : Addr) (f : Str) (v : V) : Prop := ∃ d, H a = some (exo a C (some d)) ∧ H d = some (exd d [(f, v)])
def tMk (C : Addr) (f : Str) (te : TE) : TE := fun σ H Q => te σ H fun v H1 => ∀ a d, H1 a = none → H1 d = none → d ≠ a → Q (.ref a) (upd (upd H1 d (exd d [(f, v)])) a (exo a C (some d)))
/-- how the arguments of __init__ bind -/
def Bds (f : Str) : Prop := ∀ (fd : FuncData), (∃ p1 p2, fd.params = eA f p1 p2) → fd.defaults = .none → fd.kwdefaults = .none → ∀ (x : Addr) (u : Value), bindArgs fd ⟨[.ref x, u], []⟩ = pure ([("self", .ref x), (f, u)] : List (Str × Value)) ∧ bindArgs fd ⟨[.ref x], [(f, u)]⟩ = pure ([("self", .ref x), (f, u)] : List (Str × Value))
section
variable {X : Cx} {C fI : Addr} {f x : Str} {k : Nat}
theorem make_run {pins : List (Addr × Obj)} {σ : L2.St} {H : Hp} {s : Shared} {v : V} {u : Value} {xs : List Value} {kw : List (Str × Value)} {Q : VK} (T : Cl1 X.prog X.K C fI f) (hr : Room (k + 1) X.A) (htop : (X.prog.main.scope.names.lookup ("super" : Str)).isSome = false) (I : Inv X pins σ H s)
    (hl : xs.length ≤ sizeLine) (hbd : ∀ (fd : FuncData), (∃ p1 p2, fd.params = eA f p1 p2) → fd.defaults = .none → fd.kwdefaults = .none → ∀ (x : Addr), bindArgs fd ⟨.ref x :: xs, kw⟩ = pure ([("self", .ref x), (f, u)] : List (Str × Value))) (rv : RelV v u)
    (q : ∀ a d, H a = none → H d = none → d ≠ a → Q (.ref a) (upd (upd H d (exd d [(f, v)])) a (exo a C (some d)))) : wpAny (model X.prog X.w) X.A (call (.ref C) xs kw) (EP X pins σ Q) X.xe s := by
  obtain ⟨nm, qn, N, bs, bm, sn, sub, ab, col, dd, k0, k1, k2, k3, k5, hC, hbm⟩ := T.cls
  obtain ⟨mb, nb, hbi⟩ := I.mod.blt
  obtain ⟨hp, g, dr, tk, os⟩ := s
  have kp : ∀ b o, hp.get? b = some o → (newHp hp C xs).get? b = some o := fun b o e => Heap.get?_push_of_some _ (Heap.get?_push_of_some _ e)
  have bk : ∀ b o, X.base.get? b = some o → (newHp hp C xs).get? b = some o := fun b o e => kp b o (I.bk b o e)
  have ox : (newHp hp C xs).get? (hp.objs.size + 1) = some (PySem.HandSPX.excO C hp.objs.size) := by heap_get
  have KX : X.K.In (newHp hp C xs) := I.mod.kin.keeps bk
  have nx : hp.get? (hp.objs.size + 1) = none := Heap.get?_none_of_le (Nat.le_succ _)
  have nK : X.K.lookup (hp.objs.size + 1) = none := by
    cases z : X.K.lookup (hp.objs.size + 1) with
    | none => rfl
    | some o =>
      have y : hp.get? _ = some o := I.kIn _ _ z
      rw [nx] at y
      cases y
  refine wpAny_call (call_any F.excBase_ValueError (fun Y => PySem.HandSPX.refsVE_contains Y bm hbm) (I.kIn _ _ hC) hl (PySem.W.looks_findIn I.kIn T.iC) (fun self => PySem.W.bind_fn I.kIn self T.tC) ?_)
  refine init1 T (x := hp.objs.size + 1) (t0 := hp.objs.size) (v := u) KX (I.mod.glob.keeps bk) (nb.keeps bk) hbi htop (I.mod.nolimit.keeps bk) ox nK ?_ (fun fd h1 h2 h3 => BindsTo.of_eq (hbd fd h1 h2 h3 _)) ?_
  · rw [make_depth]
    have := hr.dp
    omega
  · intro h' tk' d t1 E
    have k' : ∀ b o, hp.get? b = some o → h'.get? b = some o := fun b o e => E.keep b o (Nat.ne_of_lt (Nat.lt_succ_of_lt (Heap.lt_size e))) (kp b o e)
    have hsz : (newHp hp C xs).objs.size = hp.objs.size + 2 := by rw [newHp, Heap.size_push, Heap.size_push]
    have db := E.dbig
    have db2 : hp.objs.size ≤ d := by
      have z : (newHp hp C xs).objs.size ≤ d := db
      omega
    have nd : hp.get? d = none := Heap.get?_none_of_le db2
    have ha : H (hp.objs.size + 1) = none := I.hok.fresh (Nat.le_succ _)
    have hd : H d = none := I.hok.fresh db2
    refine ⟨rfl, .ref (hp.objs.size + 1), _, I.un (t' := tk') (un2 k' nx nd ha hd) (hok2 I.hok k' ha hd (exo_ok E.obj) (exd_ok E.ns fun g => ?_)), rfl, q _ d ha hd E.dne⟩
    exact relO_put (fs := []) (mA := fun _ => none) rv (fun _ => True.intro) g
end
end OE
namespace OE
open PySem PySem.Spec PyProof.Rows L2
section
variable {X : Cx} {C fI : Addr} {f x : Str} {k : Nat} {e : Expr} {te : TE} {p pos kp : Pos}
theorem pe_mk1 (T : Cl1 X.prog X.K C fI f) (B : Bds f) (hr : Room (k + 1) X.A) (htop : (X.prog.main.scope.names.lookup ("super" : Str)).isSome = false) (hg : Gl X x) (hm : X.mg x = some (.ref C)) (hk : PySem.W.keepIn X.K (.ref C) = true) (he : PE X e te)
    (hdb : (x == ("__debug__" : Str)) = false) (hs : starEach [e] X.env = (false, eval e X.env) :: starEach [] X.env := by rfl) : PE X (.Call (.Name x p) [e] [] pos) (tMk C f te) := by
  refine ⟨fun pins s σ H Q I h => wpAny_Call_Name_kw (ld_glob I hg hm ?_ hdb)⟩
  refine PySem.W.callWith_K (h₀ := X.base) I.ok.mod.kin hk ?_ hs (by rfl)
  rw [hs]
  show wpAny _ _ (spliced ((false, eval e X.env) :: backTo pos (starEach [] X.env))) _ _ s
  refine Calls.spliced_cons (thn (he.run pins s σ H _ I h) fun u s1 ⟨v, H1, I1, r1, q1⟩ => Calls.spliced_nil ⟨I1.kIn, ?_⟩)
  show wpAny _ _ (call (.ref C) [u]) _ _ _
  exact make_run (xs := [u]) (kw := []) T hr htop I1 (by show 1 ≤ sizeLine; rw [sizeLine_eq]; omega) (fun fd h1 h2 h3 y => (B fd h1 h2 h3 y u).1) r1 q1
theorem pe_mkK (T : Cl1 X.prog X.K C fI f) (B : Bds f) (hr : Room (k + 1) X.A) (htop : (X.prog.main.scope.names.lookup ("super" : Str)).isSome = false) (hg : Gl X x) (hm : X.mg x = some (.ref C)) (hk : PySem.W.keepIn X.K (.ref C) = true) (he : PE X e te)
    (hdb : (x == ("__debug__" : Str)) = false) : PE X (.Call (.Name x p) [] [⟨some f, e, kp⟩] pos) (tMk C f te) := by
  refine ⟨fun pins s σ H Q I h => wpAny_Call_Name_kw (ld_glob I hg hm ?_ hdb)⟩
  refine PySem.W.callWith_KW0 (h₀ := X.base) I.ok.mod.kin hk (by rfl) ?_ (by rfl)
  refine thn ((pk_cons (nm := some f) (kpos := kp) he pk_nil).run pos pins s σ H (fun vs H1 => match vs with | [v] => ∀ a d, H1 a = none → H1 d = none → d ≠ a → Q (.ref a) (upd (upd H1 d (exd d [(f, v)])) a (exo a C (some d))) | _ => False) I h) fun us s1 ⟨vs, H1, I1, r1, q1⟩ => ⟨I1.kIn, ?_⟩
  cases r1 with
  | nil => exact (show False from q1).elim
  | @cons _ u _ _ ra rb =>
    cases rb with
    | nil => exact make_run (xs := []) (kw := [(f, u)]) T hr htop I1 (Nat.zero_le _) (fun fd h1 h2 h3 y => (B fd h1 h2 h3 y u).2) ra q1
    | cons _ _ => exact (show False from q1).elim
end
end OE
namespace OE
open PySem PySem.Spec PyProof.Rows L2
def Bds0 : Prop := ∀ (fd : FuncData), (∃ p1, fd.params = eA0 p1) → fd.defaults = .none → fd.kwdefaults = .none → ∀ (x : Addr), bindArgs fd ⟨[.ref x], []⟩ = pure ([("self", .ref x)] : List (Str × Value))
def tMk0 (C : Addr) : TE := fun σ H Q => ∀ a, H a = none → Q (.ref a) (upd H a (exo a C none))
theorem bds0 : Bds0 := by
  intro fd h1 h2 h3 x
  obtain ⟨n1, n2, ps, b, s, c, d1, d2, g⟩ := fd
  obtain ⟨p1, h1⟩ := h1
  dsimp only at h1 h2 h3
  subst h1 h2 h3
  rfl
section
variable {X : Cx} {C fI : Addr} {f x : Str} {k : Nat} {e : Expr} {te : TE} {p pos kp : Pos}
theorem make_run0 {pins : List (Addr × Obj)} {σ : L2.St} {H : Hp} {s : Shared} {Q : VK} (T : Cl0 X.prog X.K C fI) (hr : Room (k + 1) X.A) (htop : (X.prog.main.scope.names.lookup ("super" : Str)).isSome = false) (I : Inv X pins σ H s)
    (q : ∀ a, H a = none → Q (.ref a) (upd H a (exo a C none))) : wpAny (model X.prog X.w) X.A (call (.ref C) [] []) (EP X pins σ Q) X.xe s := by
  obtain ⟨nm, qn, N, bs, bm, sn, sub, ab, col, dd, k0, k1, k2, k3, k5, hC, hbm⟩ := T.cls
  obtain ⟨mb, nb, hbi⟩ := I.mod.blt
  obtain ⟨hp, g, dr, tk, os⟩ := s
  have kp : ∀ b o, hp.get? b = some o → (newHp hp C []).get? b = some o := fun b o e => Heap.get?_push_of_some _ (Heap.get?_push_of_some _ e)
  have bk : ∀ b o, X.base.get? b = some o → (newHp hp C []).get? b = some o := fun b o e => kp b o (I.bk b o e)
  have ox : (newHp hp C []).get? (hp.objs.size + 1) = some (PySem.HandSPX.excO C hp.objs.size) := by heap_get
  have KX : X.K.In (newHp hp C []) := I.mod.kin.keeps bk
  have nx : hp.get? (hp.objs.size + 1) = none := Heap.get?_none_of_le (Nat.le_succ _)
  have nK : X.K.lookup (hp.objs.size + 1) = none := by
    cases z : X.K.lookup (hp.objs.size + 1) with
    | none => rfl
    | some o =>
      have y : hp.get? _ = some o := I.kIn _ _ z
      rw [nx] at y
      cases y
  refine wpAny_call (call_any F.excBase_ValueError (fun Y => PySem.HandSPX.refsVE_contains Y bm hbm) (I.kIn _ _ hC) (Nat.zero_le _) (PySem.W.looks_findIn I.kIn T.iC) (fun self => PySem.W.bind_fn I.kIn self T.tC) ?_)
  refine init0 T (x := hp.objs.size + 1) (t0 := hp.objs.size) KX (I.mod.glob.keeps bk) (nb.keeps bk) hbi htop (I.mod.nolimit.keeps bk) ox nK ?_ (fun fd h1 h2 h3 => BindsTo.of_eq (bds0 fd h1 h2 h3 _)) ?_
  · rw [make_depth]
    have := hr.dp
    omega
  · intro h' tk' t1 kk hx
    have k' : ∀ b o, hp.get? b = some o → h'.get? b = some o := fun b o e => kk b o (Nat.ne_of_lt (Nat.lt_succ_of_lt (Heap.lt_size e))) (kp b o e)
    have ha : H (hp.objs.size + 1) = none := I.hok.fresh (Nat.le_succ _)
    exact ⟨rfl, .ref (hp.objs.size + 1), _, I.laid (t' := tk') k' (Nat.le_succ _) (exo_ok hx), rfl, q _ ha⟩
theorem pe_mk0 (T : Cl0 X.prog X.K C fI) (hr : Room (k + 1) X.A) (htop : (X.prog.main.scope.names.lookup ("super" : Str)).isSome = false) (hg : Gl X x) (hm : X.mg x = some (.ref C)) (hk : PySem.W.keepIn X.K (.ref C) = true)
    (hdb : (x == ("__debug__" : Str)) = false) : PE X (.Call (.Name x p) [] [] pos) (tMk0 C) := by
  refine ⟨fun pins s σ H Q I h => wpAny_Call_Name_kw (ld_glob I hg hm ?_ hdb)⟩
  refine PySem.W.callWith_K0 I.kIn hk ?_
  exact make_run0 T hr htop I h
end
end OE
namespace OE
open PySem PySem.Spec PyProof.Rows L2
/-! ### what is asked of an error that is kept as a value -/
structure Asked (K : PySem.W.Frag) (C : Addr) : Prop where
  x : XfC K C
  cl : (PySem.W.clsIn K C).isSome = true
  dc : PySem.W.findIn K (.ref C) "__class__" = some (some (.builtin "object.__class__"))
  ob : PySem.W.mroIn K C (.type "object") = some true
structure AskedK (K : PySem.W.Frag) : Prop where
  gs : PySem.W.specialIn K (.builtin "object.__class__") "__get__" = some (some (.builtin "getset_descriptor.__get__"))
  tk : PySem.W.takesIn K (.builtin "object.__class__") = some true
/-- the error at a, of the class at C, with or without what it keeps -/
def ErrAt (H : Hp) (a C : Addr) : Prop := H a = some (exo a C none) ∨ ∃ d f v, H a = some (exo a C (some d)) ∧ H d = some (exd d [(f, v)])
section
variable {X : Cx} {pins : List (Addr × Obj)} {σ : L2.St} {H : Hp} {s : Shared} {a C : Addr}
theorem errInst (I : Inv X pins σ H s) (h : ErrAt H a C) : ∃ ox od, PySem.W.InstAt s.heap a ox C od := by
  rcases h with h | ⟨d, f, v, h, hd⟩
  · obtain ⟨t1, e⟩ := exo_at I.hok h
    exact ⟨_, none, e, rfl, rfl, trivial⟩
  · obtain ⟨t1, e⟩ := exo_at I.hok h
    obtain ⟨mA, hn, _⟩ := exd_at I.hok hd
    obtain ⟨o, es, ep, ho, _⟩ := hn
    exact ⟨_, some o, e, rfl, rfl, ho⟩
/-- a new list, its place not that of the modules' dict -/
def tLstN (t : TA) : TE := fun σ H Q => t σ H fun xs H1 => xs.length ≤ sizeLine ∧ ∀ p, H1 p = none → p ≠ sysModules → Q (.ref p) (upd H1 p (.lst xs))
theorem pe_lstN {es : List Expr} {t : TA} {pos : Pos} (h : PA X es t) : PE X (.List es pos) (tLstN t) := by
  refine ⟨fun pins s σ H Q I hq => wpAny_List_spliced (thn (h.run pos pins s σ H _ I hq) fun us s1 ⟨xs, H1, I1, r, z, q⟩ => ⟨(by rw [← r.length]; exact z), ?_⟩)⟩
  have big : mainGlobals < s1.heap.objs.size := by
    obtain ⟨o, es, ep, e, _⟩ := I1.mod.glob
    exact Heap.lt_size (I1.bk _ _ e)
  have ns : s1.heap.objs.size ≠ sysModules := fun e => by
    rw [e] at big
    exact absurd big (by decide)
  have nl := I1.hok.fresh (Nat.le_refl s1.heap.objs.size)
  exact ⟨.ref s1.heap.objs.size, _, I1.laid (t' := s1.toks) (a := s1.heap.objs.size) (o := .lst xs) (fun b u e => Heap.get?_push_of_some _ e) (Nat.le_refl _) ⟨z, us, 0, r, Heap.get?_push_size _ rfl⟩, rfl, q _ nl ns⟩
/-- isinstance(e, c) -/
def rIsV (K : PySem.W.Frag) : List V → Hp → VK → Prop := fun xs H Q => ∃ (a C : Addr) (c : V) (u : Value) (b : Bool), xs = [.ref a, c] ∧ ErrAt H a C ∧ Asked K C ∧ ClsV c u ∧ PySem.W.kitOne K (.ref C) u = some b ∧ Q (.bl b) H
theorem call_isV (AK : AskedK X.K) : CallR X (.builtin "isinstance") (rIsV X.K) := by
  intro pins s σ H xs us Q I r h
  obtain ⟨a, C, c, u, b, rfl, he, hA, hc, hk, q⟩ := h
  obtain ⟨u1, u2, rfl, r1, r2⟩ := vals2 r
  cases r1
  have e2 := hc.eq r2
  subst e2
  obtain ⟨ox, od, J⟩ := errInst I he
  exact PySem.W.kia_one (PySem.W.kitx_exc hA.cl hA.x.ga hA.x.gg hA.x.exC hA.dc AK.gs AK.tk hA.ob) I.kIn J hk (fun z => nomatch z) fun tk => ⟨.bl b, H, I.tok tk, rfl, q⟩
/-- e.f -/
def tFv (K : PySem.W.Frag) (f : Str) (te : TE) : TE := fun σ H Q => te σ H fun x H1 => ∃ a C d v, x = .ref a ∧ XfC K C ∧ PySem.W.findIn K (.ref C) f = some none ∧ H1 a = some (exo a C (some d)) ∧ H1 d = some (exd d [(f, v)]) ∧ Q v H1
theorem pe_fv {f : Str} {e : Expr} {te : TE} {pos : Pos} (he : PE X e te) (hb : attributeBase e f X.env (eval e X.env) = eval e X.env := by rfl) : PE X (.Attribute e f pos) (tFv X.K f te) := by
  refine ⟨fun pins s σ H Q I h => attr_of hb (thn (he.run pins s σ H _ I h) fun u s1 hh => ?_)⟩
  obtain ⟨x, H1, I1, rx, a, C, d, v, rfl, T, hno, ea, ed, q⟩ := hh
  cases rx
  obtain ⟨t1, ho⟩ := exo_at I1.hok ea
  obtain ⟨mA, hns, rel⟩ := exd_at I1.hok ed
  obtain ⟨oD, hoD, hl⟩ := lookIn_ns hns
  obtain ⟨u, hu, ru⟩ := RelO.some_of (v := v) (o := mA f) (by have z := rel f; rw [lookup_put, if_pos rfl] at z; exact z)
  have J : PySem.W.InstAt s1.heap a _ C (some oD) := ⟨ho, rfl, rfl, hoD⟩
  exact HandSPX.exc_get I1.kIn J T.ga T.gg T.exC (PySem.W.findObj_own T.hdC hno rfl (by rw [hl, hu])) (handed_of ru) ⟨v, H1, I1.tok _, ru, q⟩
end
end OE
namespace OE
open PySem PySem.Spec PyProof.Rows L2 LamX
/-! ### a lambda that is kept: its object, its code's object -/
def lEnd : Str := "<lambda>"
def LamO (f : Addr) (q : Str) (params : Arguments) (body : Expr) (sc : Scope) (c' : Addr) : HO := .ext fun h => ∃ pm ctv : Value, h.get? f = some (PySem.W.kla_obj "<lambda>" q params body sc [] pm c' ctv)
theorem lamO_ok {P : Program} {w : World} {H : Hp} {h : Heap} {f c' : Addr} {q : Str} {params : Arguments} {body : Expr} {sc : Scope} {pm ctv : Value} (e : h.get? f = some (PySem.W.kla_obj "<lambda>" q params body sc [] pm c' ctv)) : ObjOk P w H h f (LamO f q params body sc c') :=
  ⟨⟨pm, ctv, e⟩, ⟨_, e⟩, fun h1 h2 ⟨a, b, z⟩ k => ⟨a, b, k _ z⟩⟩
theorem lamO_at {P : Program} {w : World} {H : Hp} {h : Heap} {f c' : Addr} {q : Str} {params : Arguments} {body : Expr} {sc : Scope} (ok : HOk P w H h) (e : H f = some (LamO f q params body sc c')) : ∃ pm ctv : Value, h.get? f = some (PySem.W.kla_obj "<lambda>" q params body sc [] pm c' ctv) := by
  have x : ObjOk P w H h f (.ext fun h => ∃ pm ctv : Value, h.get? f = some (PySem.W.kla_obj "<lambda>" q params body sc [] pm c' ctv)) := ok f _ e
  exact x.1
def tLamV (T : List (Addr × Str)) (q : Str) (params : Arguments) (body : Expr) (sc : Scope) : TE := fun σ H Q => Tabs T H ∧ ∀ H1 f c', ExtN H H1 → Tabs T H1 → H f = none → H1 f = some (LamO f q params body sc c') → H1 c' = some (CodeO c' q) → Q (.ref f) H1
section
variable {X : Cx} {T : List (Addr × Str)} {c P : Addr} {params : Arguments} {body : Expr} {sc : Scope} {pos : Pos}
theorem pe_lamV (TB : TabB X.base X.mg c P) (hcode : X.env.code = .ref c) (hm : (P, X.env.qual ++ "<lambda>") ∈ T) (hu : ∀ p ∈ T, p.1 = P → p.2 = X.env.qual ++ "<lambda>") (hdef : defaultsOf params X.env = ([], [])) (hcl : closureFor sc X.env = pure []) :
    PE X (.Lambda params body sc pos) (tLamV T (X.env.qual ++ "<lambda>") params body sc) := by
  refine ⟨fun pins s σ H Q I h => ?_⟩
  obtain ⟨hT, h⟩ := h
  obtain ⟨ps, hP, ht, ha⟩ := hT _ hm
  refine PySem.W.kla_eval hdef ?_
  have bP : s.heap.BuiltinsAt X.mg P := TB.bm.keeps I.bk
  have gP : s.heap.get? P = some { cls := .none, data := .fields ps } := I.hok P _ hP
  cases hc : codeAmong pos ps.toList with
  | none =>
    refine PySem.W.kla_makeFunction (mg := X.mg) (c := c) (P := P) (ps := ps) hcl I.ok.glob (I.mod.glob.keeps I.bk) hcode (TB.code.keeps I.bk) gP ht hc TB.gP bP fun c' ctv h' tk hx hge hlt hrec htb => ?_
    obtain ⟨c2, oc, vs, t, e2, hoc, hd, hv⟩ := hrec
    cases e2
    have nC : H c' = none := I.hok.fresh hge
    have nF : H h'.objs.size = none := I.hok.fresh (Nat.le_trans hge (Nat.le_of_lt hlt))
    have I1 := inv_table (t' := tk) (q := X.env.qual ++ "<lambda>") (more := #[rawInt pos.line, rawInt pos.col, .ref c']) (h' := h') I hP (fun b o hb e => hx b o hb e) htb hge ⟨oc, vs, t, hoc, hd, hv⟩
    have gf : (h'.push (PySem.W.kla_obj "<lambda>" (X.env.qual ++ "<lambda>") params body sc [] ((X.mg "__name__").getD .none) c' ctv)).get? h'.objs.size = some _ := Heap.get?_push_size _ rfl
    have I2 := I1.laid (t' := tk) (a := h'.objs.size) (o := LamO h'.objs.size (X.env.qual ++ "<lambda>") params body sc c') (fun b o e => Heap.get?_push_of_some _ e) (Nat.le_refl _) (lamO_ok gf)
    have cf : c' ≠ h'.objs.size := Nat.ne_of_lt hlt
    have eN : ExtN H (upd (upd (upd H P (.tbl (ps ++ #[rawInt pos.line, rawInt pos.col, .ref c']))) c' (CodeO c' (X.env.qual ++ "<lambda>"))) h'.objs.size (LamO h'.objs.size (X.env.qual ++ "<lambda>") params body sc c')) := fun b o e n => by
      rw [upd_ne (ne_of_none e nF), upd_ne (ne_of_none e nC), upd_ne (fun z => n ps (by rw [z, hP] at e; exact (Option.some.inj e).symm))]
      exact e
    have aC : (upd (upd (upd H P (.tbl (ps ++ #[rawInt pos.line, rawInt pos.col, .ref c']))) c' (CodeO c' (X.env.qual ++ "<lambda>"))) h'.objs.size (LamO h'.objs.size (X.env.qual ++ "<lambda>") params body sc c')) c' = some (CodeO c' (X.env.qual ++ "<lambda>")) := by
      rw [upd_ne cf, upd_same]
    refine ⟨.ref h'.objs.size, _, I2, rfl, h _ _ c' eN (fun p hp => ?_) nF upd_same aC⟩
    by_cases hb : p.1 = P
    · rw [hu p hp hb, hb]
      refine ⟨_, by rw [upd_ne (ne_of_none hP nF), upd_ne (ne_of_none hP nC), upd_same], ?_, fun p' cv hcv => ?_⟩
      · rw [Array.toList_append]
        exact PySem.TriplesOk_snoc _ _ _ _ ht
      · rw [Array.toList_append] at hcv
        rcases among_app _ ht hcv with z | z
        · obtain ⟨c0, e1, e2⟩ := ha p' cv z
          exact ⟨c0, e1, eN _ _ e2 codeO_ne⟩
        · exact ⟨c', z, aC⟩
    · obtain ⟨ps', a1, a2, a3⟩ := hT p hp
      refine ⟨ps', by rw [upd_ne (ne_of_none a1 nF), upd_ne (ne_of_none a1 nC), upd_ne hb]; exact a1, a2, fun p' cv hcv => ?_⟩
      obtain ⟨c0, e1, e2⟩ := a3 p' cv hcv
      exact ⟨c0, e1, eN _ _ e2 codeO_ne⟩
  | some cv =>
    obtain ⟨c', e, hco⟩ := ha pos cv hc
    subst e
    refine PySem.W.kla_makeFunctionHit (mg := X.mg) (c := c) (P := P) (ps := ps) hcl I.ok.glob (I.mod.glob.keeps I.bk) hcode (TB.code.keeps I.bk) gP ht hc bP fun ctv h' tk hx hsz => ?_
    have I1 : Inv X pins σ H { s with heap := h', toks := tk } := I.kept hx
    have nF : H h'.objs.size = none := I.hok.fresh hsz
    have gf : (h'.push (PySem.W.kla_obj "<lambda>" (X.env.qual ++ "<lambda>") params body sc [] ((X.mg "__name__").getD .none) c' ctv)).get? h'.objs.size = some _ := Heap.get?_push_size _ rfl
    have I2 := I1.laid (t' := tk) (a := h'.objs.size) (o := LamO h'.objs.size (X.env.qual ++ "<lambda>") params body sc c') (fun b o e => Heap.get?_push_of_some _ e) (Nat.le_refl _) (lamO_ok gf)
    have eN : ∀ b o, H b = some o → upd H h'.objs.size (LamO h'.objs.size (X.env.qual ++ "<lambda>") params body sc c') b = some o := fun b o e => by
      rw [upd_ne (ne_of_none e nF)]
      exact e
    exact ⟨.ref h'.objs.size, _, I2, rfl, h _ _ c' (ExtN.of eN) (hT.ext eN) nF upd_same (eN _ _ hco)⟩
end
end OE
namespace OE
open PySem PySem.Spec PyProof.Rows L2 LamX
/-- a lambda called -/
theorem run_lam {P : Program} {w : World} {K : PySem.W.Frag} {mg : Str → Option Value} {base : Heap} {k : Nat} {f c' : Addr} {q : Str} {params : Arguments} {body : Expr} {sc : Scope} {pm ctv : Value} {N ps : List Str} {A : Around} {outer : List Env} {s : Shared} {H : Hp} {us : List Value} {vs : List V} {Q : VK} {E : XK}
    (of : s.heap.get? f = some (PySem.W.kla_obj "<lambda>" q params body sc [] pm c' ctv)) (cd : s.heap.CodeRec (.ref c') q) (S : FnScope N ps sc) (hr : Room (k + 1) A) (e0 : Env0 P w K mg base A outer s H)
    (hb : bindArgs (PySem.W.kla_fn "<lambda>" q params body sc [] pm (.ref c') ctv) ⟨us, []⟩ = pure (ps.zip us)) (rv : Vals vs us) (hl : vs.length = ps.length)
    (hbody : Room k (A.deeper (envOfC q sc s.heap.objs.size f (.ref c'))) → ∃ t, PE (cxOf CX0 P w K mg base N q sc f (.ref c') A outer s H E) body t ∧ t (L2.start N vs) H Q) :
    codeAny (model P w) A (.call (.ref f) ⟨us, []⟩) (CR CX0 outer P w H s Q E) s := by
  have lim : s.heap.NoLimit := e0.mod.nolimit.keeps fun b o e => (e0.bs b o e).1
  have kind : ∀ y ∈ ps.zip us, sc.names.lookup y.1 = some .local ∨ (sc.names.lookup y.1 = some .cell ∧ ((cellsFrom (s.heap.objs.size + 1) sc.names []).lookup y.1).isSome = true) := by
    rintro ⟨n, v⟩ hy
    rcases S.par n (List.of_mem_zip hy).1 with z | z
    · exact .inl z
    · exact .inr ⟨z, PySem.W.cellsFrom_some _ _ _ (.inl z)⟩
  refine PySem.W.kla_callFunE hr.depth of rfl S.co S.gen rfl cd ?_
  rw [hb]
  refine wpAny_pure (wpAny_newFunctionEnv_cells S.kind kind fun env he s1 x => ?_)
  subst he
  refine ⟨lim.keeps x.toInCall.keep, ?_⟩
  obtain ⟨t, ht, hq⟩ := hbody (hr.deeper _)
  have I : Inv (cxOf CX0 P w K mg base N q sc f (.ref c') A outer s H E) [] (L2.start N vs) H s1 := inv_start S hr.hd e0 hl rv x
  refine PySem.W.kla_codeExpr (wpAny_mono (ht.run [] s1 _ H Q I hq) (fun v s' z => ?_) fun e s' z => z)
  obtain ⟨v', H', J, rr, q'⟩ := z
  exact ⟨v', H', J.os, J.bare, J.base, J.hok, rr, q'⟩
/-- what stands in the j-th slot is a lambda; it is called with one thing -/
def tLamC (i : Nat) (te : TE) (R : V → Hp → VK → Addr → Str → Arguments → Expr → Scope → Addr → Prop) : TE := fun σ H Q => ∃ f q params body sc c', σ[i]? = some (some (.ref f)) ∧ H f = some (LamO f q params body sc c') ∧ te σ H fun v H1 => H1 f = some (LamO f q params body sc c') ∧ H1 c' = some (CodeO c' q) ∧ R v H1 Q f q params body sc c'
section
variable {X : Cx} {k i : Nat} {x : Str} {e : Expr} {te : TE} {p pos : Pos} {N ps : List Str} {n : Str}
theorem pe_lamC (hr : Room (k + 1) X.A) (hN : X.N[i]? = some x) (hv : Vis X.env.scope x) (he : PE X e te) {R : V → Hp → VK → Addr → Str → Arguments → Expr → Scope → Addr → Prop}
    (hR : ∀ (v : V) (H : Hp) (Q : VK) (s : Shared) (f : Addr) (q : Str) (params : Arguments) (body : Expr) (sc : Scope) (c' : Addr), R v H Q f q params body sc c' → ∃ N n, FnScope N [n] sc ∧ (∀ (pm ctv : Value) (u : Value), bindArgs (PySem.W.kla_fn "<lambda>" q params body sc [] pm (.ref c') ctv) ⟨[u], []⟩ = pure [(n, u)]) ∧
      (Room k (X.A.deeper (envOfC q sc s.heap.objs.size f (.ref c'))) → ∃ t, PE (cxOf CX0 X.prog X.w X.K X.mg X.base N q sc f (.ref c') X.A X.stack s H (fun _ _ _ => False)) body t ∧ t (L2.start N [v]) H Q))
    (hdb : (x == ("__debug__" : Str)) = false := by decide) (hcd : (x == ("__classdict__" : Str)) = false := by decide) (hs : starEach [e] X.env = (false, eval e X.env) :: starEach [] X.env := by rfl) :
    PE X (.Call (.Name x p) [e] [] pos) (tLamC i te R) := by
  refine ⟨fun pins s σ H Q I h => ?_⟩
  obtain ⟨f, q, params, body, sc, c', hσ, hf, ht⟩ := h
  refine wpAny_Call_Name_kw (thn ((pe_var (pos := p) (i := i) hN hv hdb hcd).run pins s σ H (fun v H1 => v = .ref f ∧ H1 = H) I ⟨.ref f, hσ, rfl, rfl⟩) fun u s1 ⟨v, H1, I1, r1, q1⟩ => ?_)
  obtain ⟨ev, eH⟩ := q1
  subst ev eH
  obtain rfl : u = Value.ref f := r1
  obtain ⟨pm, ctv, of⟩ := lamO_at I1.hok hf
  refine PySem.W.callWith_F ⟨_, _, _, _, of⟩ ?_ hs (by rfl)
  rw [hs]
  show wpAny _ _ (spliced ((false, eval e X.env) :: backTo pos (starEach [] X.env))) _ _ s1
  refine Calls.spliced_cons (thn (he.run pins s1 σ H1 _ I1 ht) fun u s2 ⟨v, H2, I2, r2, hf2, hc2, q2⟩ => ?_)
  obtain ⟨pm2, ctv2, of2⟩ := lamO_at I2.hok hf2
  refine Calls.spliced_nil ⟨⟨_, _, _, _, of2⟩, ?_⟩
  show wpAny _ _ (call (.ref f) [u]) _ _ _
  obtain ⟨⟨oc, vs, t, hoc, hdc, hvc⟩, _, _⟩ := I2.hok c' _ hc2
  obtain ⟨N, n, S, hb, hbody⟩ := hR v H2 Q s2 f q params body sc c' q2
  refine wpAny_call (codeAny_mono (run_lam of2 ⟨c', oc, vs, t, rfl, hoc, hdc, hvc⟩ S hr I2.env0 (hb pm2 ctv2 u) (.cons r2 .nil) rfl hbody) fun r s' hq => ?_)
  cases r with
  | error e => exact (show False from hq).elim
  | ok fl =>
    cases fl with
    | ret u => exact I2.after hq
    | next => exact False.elim hq
    | brk => exact False.elim hq
    | cont => exact False.elim hq
end
end OE
namespace OE
open PySem PySem.Spec PyProof.Rows L2 LamX
/-! ### one row of what is made: (C(x), C(f=x), lambda e: [e.f], [x]) -/
def lSc : Scope := { kind := .function, names := [(PySem.Str.ofString "_law_e", .local)], isGenerator := false, isCoroutine := false, more := [] }
def lA (p : Pos) : Arguments := { posonlyargs := [], args := [{ arg := "_law_e", annotation := none, pos := p }], vararg := none, kwonlyargs := [], kw_defaults := [], kwarg := none, defaults := [] }
def LamB (fo : Option Str) (body : Expr) : Prop := match fo with
  | some f => ∃ p1 p2 p3, body = .List [.Attribute (.Name "_law_e" p1) f p2] p3
  | none => ∃ p3, body = .List [] p3
def ErrOf (H : Hp) (a C : Addr) (fo : Option Str) (x : V) : Prop := match fo with
  | some f => Kept H a C f x
  | none => H a = some (exo a C none)
def dueOf (fo : Option Str) (x : V) : List V := match fo with
  | some _ => [x]
  | none => []
structure LamIn (H : Hp) (l : Addr) (fo : Option Str) (q : Str) (ps : Arguments) (body : Expr) (c' : Addr) : Prop where
  lam : H l = some (LamO l q ps body lSc c')
  code : H c' = some (CodeO c' q)
  par : ∃ p, ps = lA p
  body : LamB fo body
/-- the tuple at t is a row of the class at C -/
def RowOk (H : Hp) (t C : Addr) (fo : Option Str) (x : V) : Prop := ∃ m w l d, H t = some (.tup [.ref m, .ref w, .ref l, .ref d]) ∧ ErrOf H m C fo x ∧ ErrOf H w C fo x ∧ (∃ q ps body c', LamIn H l fo q ps body c') ∧ H d = some (.lst (dueOf fo x)) ∧ d ≠ sysModules
theorem exo_notTbl {a C : Addr} {d : Option Addr} (ps : Array Value) : exo a C d ≠ .tbl ps := exo_tbl
theorem exd_notTbl {a : Addr} {fs : List (Str × V)} (ps : Array Value) : exd a fs ≠ .tbl ps := fun z => by
  unfold exd at z
  cases z
theorem lamO_notTbl {l c' : Addr} {q : Str} {ar : Arguments} {b : Expr} {sc : Scope} (ps : Array Value) : LamO l q ar b sc c' ≠ .tbl ps := fun z => by
  unfold LamO at z
  cases z
theorem tup_notTbl {xs : List V} (ps : Array Value) : HO.tup xs ≠ .tbl ps := fun z => by cases z
theorem lst_notTbl {xs : List V} (ps : Array Value) : HO.lst xs ≠ .tbl ps := fun z => by cases z
/-- all but the tables and the list at p -/
def ExtP (p : Addr) (H H' : Hp) : Prop := ∀ b o, b ≠ p → H b = some o → (∀ ps, o ≠ .tbl ps) → H' b = some o
theorem ErrOf.ext {H H' : Hp} {a C : Addr} {fo : Option Str} {x : V} (e : ErrOf H a C fo x) (h : ExtN H H') : ErrOf H' a C fo x := by
  cases fo with
  | none => exact h _ _ e exo_notTbl
  | some f =>
    obtain ⟨d, h1, h2⟩ := e
    exact ⟨d, h _ _ h1 exo_notTbl, h _ _ h2 exd_notTbl⟩
theorem LamIn.ext {H H' : Hp} {l : Addr} {fo : Option Str} {q : Str} {ps : Arguments} {body : Expr} {c' : Addr} (e : LamIn H l fo q ps body c') (h : ExtN H H') : LamIn H' l fo q ps body c' :=
  ⟨h _ _ e.lam lamO_notTbl, h _ _ e.code codeO_ne, e.par, e.body⟩
theorem RowOk.ext {H H' : Hp} {t C : Addr} {fo : Option Str} {x : V} (e : RowOk H t C fo x) (h : ExtN H H') : RowOk H' t C fo x := by
  obtain ⟨m, w, l, d, h1, h2, h3, ⟨q, ps, b, c', h4⟩, h5⟩ := e
  exact ⟨m, w, l, d, h _ _ h1 tup_notTbl, h2.ext h, h3.ext h, ⟨q, ps, b, c', h4.ext h⟩, h _ _ h5.1 lst_notTbl, h5.2⟩
theorem extN_new {H : Hp} {a : Addr} {o : HO} (h : H a = none) : ExtN H (upd H a o) := ExtN.of fun b u e => by
  rw [upd_ne (ne_of_none e h)]
  exact e
theorem extN_new2 {H : Hp} {a b : Addr} {o u : HO} (ha : H a = none) (hb : H b = none) : ExtN H (upd (upd H b u) a o) := ExtN.of fun x v e => upd2_at ha hb e
theorem tabs_new {T : List (Addr × Str)} {H : Hp} {a : Addr} {o : HO} (t : Tabs T H) (h : H a = none) : Tabs T (upd H a o) := t.ext fun b u e => by
  rw [upd_ne (ne_of_none e h)]
  exact e
theorem tabs_new2 {T : List (Addr × Str)} {H : Hp} {a b : Addr} {o u : HO} (t : Tabs T H) (ha : H a = none) (hb : H b = none) : Tabs T (upd (upd H b u) a o) := t.ext fun x v e => upd2_at ha hb e
/-- a list that is written -/
theorem tabs_lst {T : List (Addr × Str)} {H : Hp} {p : Addr} {xs ys : List V} (t : Tabs T H) (h : H p = some (.lst xs)) : Tabs T (upd H p (.lst ys)) := fun r hr => by
  have ne : ∀ b o, H b = some o → (∀ zs, o ≠ .lst zs) → b ≠ p := fun b o e n z => by
    rw [z, h] at e
    exact n _ (Option.some.inj e).symm
  obtain ⟨ps, a1, a2, a3⟩ := t r hr
  refine ⟨ps, by rw [upd_ne (ne _ _ a1 (fun zs z => by cases z))]; exact a1, a2, fun pos cv hc => ?_⟩
  obtain ⟨c, e1, e2⟩ := a3 pos cv hc
  exact ⟨c, e1, by rw [upd_ne (ne _ _ e2 (fun zs z => by unfold CodeO at z; cases z))]; exact e2⟩
theorem row_lst {H : Hp} {t C p : Addr} {fo : Option Str} {x : V} {xs ys : List V} (e : RowOk H t C fo x) (h : H p = some (.lst xs)) (np : ∀ m w l d, H t = some (.tup [.ref m, .ref w, .ref l, .ref d]) → d ≠ p) : RowOk (upd H p (.lst ys)) t C fo x := by
  have ne : ∀ b o, H b = some o → (∀ zs, o ≠ .lst zs) → (upd H p (.lst ys)) b = some o := fun b o e n => by
    rw [upd_ne (fun z => by rw [z, h] at e; exact n _ (Option.some.inj e).symm)]
    exact e
  have eE : ∀ {a}, ErrOf H a C fo x → ErrOf (upd H p (.lst ys)) a C fo x := by
    intro a e
    cases fo with
    | none => exact ne _ _ e (fun zs z => by unfold exo at z; cases z)
    | some f =>
      obtain ⟨d, h1, h2⟩ := e
      exact ⟨d, ne _ _ h1 (fun zs z => by unfold exo at z; cases z), ne _ _ h2 (fun zs z => by unfold exd at z; cases z)⟩
  obtain ⟨m, w, l, d, h1, h2, h3, ⟨q, ps, b, c', h4⟩, h5⟩ := e
  exact ⟨m, w, l, d, ne _ _ h1 (fun zs z => by cases z), eE h2, eE h3, ⟨q, ps, b, c', ne _ _ h4.lam (fun zs z => by unfold LamO at z; cases z), ne _ _ h4.code (fun zs z => by unfold CodeO at z; cases z), h4.par, h4.body⟩, by rw [upd_ne (np _ _ _ _ h1)]; exact h5.1, h5.2⟩
theorem kept_new {H : Hp} {m dm C : Addr} {f : Str} {v : V} (ne : dm ≠ m) : Kept (upd (upd H dm (exd dm [(f, v)])) m (exo m C (some dm))) m C f v := ⟨dm, upd_same, by rw [upd_ne ne, upd_same]⟩
/-- .. and what is due stands apart from p -/
def RowAt (p : Addr) (H : Hp) (t C : Addr) (fo : Option Str) (x : V) : Prop := RowOk H t C fo x ∧ ∃ m w l d, H t = some (.tup [.ref m, .ref w, .ref l, .ref d]) ∧ d ≠ p
theorem RowAt.ext {p : Addr} {H H' : Hp} {t C : Addr} {fo : Option Str} {x : V} {xs : List V} (r : RowAt p H t C fo x) (hp : H p = some (.lst xs)) (h : ExtP p H H') : RowAt p H' t C fo x := by
  have ne : ∀ b o, H b = some o → (∀ zs, o ≠ .lst zs) → b ≠ p := fun b o e n z => by
    rw [z, hp] at e
    exact n _ (Option.some.inj e).symm
  have kE : ∀ {a}, ErrOf H a C fo x → ErrOf H' a C fo x := by
    intro a e
    cases fo with
    | none => exact h _ _ (ne _ _ e (fun zs z => by unfold exo at z; cases z)) e exo_notTbl
    | some f =>
      obtain ⟨d, h1, h2⟩ := e
      exact ⟨d, h _ _ (ne _ _ h1 (fun zs z => by unfold exo at z; cases z)) h1 exo_notTbl, h _ _ (ne _ _ h2 (fun zs z => by unfold exd at z; cases z)) h2 exd_notTbl⟩
  obtain ⟨⟨m, w, l, d, h1, h2, h3, ⟨q, ps, b, c', h4⟩, h5⟩, m', w', l', d', h6, nd⟩ := r
  rw [h1] at h6
  cases h6
  have k1 := h _ _ (ne _ _ h1 (fun zs z => by cases z)) h1 tup_notTbl
  exact ⟨⟨m, w, l, d, k1, kE h2, kE h3, ⟨q, ps, b, c', ⟨h _ _ (ne _ _ h4.lam (fun zs z => by unfold LamO at z; cases z)) h4.lam lamO_notTbl, h _ _ (ne _ _ h4.code (fun zs z => by unfold CodeO at z; cases z)) h4.code codeO_ne, h4.par, h4.body⟩⟩, h _ _ nd h5.1 lst_notTbl, h5.2⟩, m, w, l, d, k1, nd⟩
/-! ### the statement -/
def IsRow (cn : Str) (fo : Option Str) (s : Stmt) : Prop := match fo with
  | some fl => ∃ p1 p2 p3 p4 p5 p6 p7 p8 p9 p10 p11 p12 p13 p14 p15 p16 p17 p18 p19, s = .Expr (.Call (.Attribute (.Name "_law_found" p1) "append" p2) [.Tuple [.Call (.Name cn p3) [.Name "_law_x" p4] [] p5, .Call (.Name cn p6) [] [⟨some fl, .Name "_law_x" p7, p8⟩] p9, .Lambda (lA p10) (.List [.Attribute (.Name "_law_e" p11) fl p12] p13) lSc p14, .List [.Name "_law_x" p15] p16] 0 p17] [] p18) p19 ∧ (p2.endLine == p18.line) = true
  | none => ∃ p1 p2 p3 p5 p6 p9 p10 p13 p14 p16 p17 p18 p19, s = .Expr (.Call (.Attribute (.Name "_law_found" p1) "append" p2) [.Tuple [.Call (.Name cn p3) [] [] p5, .Call (.Name cn p6) [] [] p9, .Lambda (lA p10) (.List [] p13) lSc p14, .List [] p16] 0 p17] [] p18) p19 ∧ (p2.endLine == p18.line) = true
/-- what is known of a class that is made -/
structure RowK (P : Program) (K : PySem.W.Frag) (mg : Str → Option Value) (cn : Str) (fo : Option Str) (C fI : Addr) : Prop where
  cl : match fo with
    | some f => Cl1 P K C fI f ∧ Bds f
    | none => Cl0 P K C fI
  gC : mg cn = some (.ref C)
  kC : PySem.W.keepIn K (.ref C) = true
  nd : (cn == ("__debug__" : Str)) = false
structure MadeX (X : Cx) (T : List (Addr × Str)) (c P : Addr) (k : Nat) : Prop where
  n0 : X.N[0]? = some ("_law_x" : Str)
  n1 : X.N[1]? = some ("_law_found" : Str)
  v0 : Vis X.env.scope "_law_x"
  v1 : Vis X.env.scope "_law_found"
  tb : TabB X.base X.mg c P
  code : X.env.code = .ref c
  hm : (P, X.env.qual ++ "<lambda>") ∈ T
  hu : ∀ p ∈ T, p.1 = P → p.2 = X.env.qual ++ "<lambda>"
  hr : Room (k + 1) X.A
  top : (X.prog.main.scope.names.lookup ("super" : Str)).isSome = false
def tRow (T : List (Addr × Str)) (C : Addr) (fo : Option Str) : TS := fun D σ H => ∃ x p items, σ[0]? = some (some x) ∧ σ[1]? = some (some (.ref p)) ∧ H p = some (.lst items) ∧ items.length < 1000 ∧ Tabs T H ∧
  ∀ H' t, ExtP p H H' → Tabs T H' → H' p = some (.lst (items ++ [.ref t])) → RowAt p H' t C fo x → D.nx σ H'
theorem ps_imp {X : Cx} {s : Stmt} {t t' : TS} (h : PS X s t) (i : ∀ D σ H, t' D σ H → t D σ H) : PS X s t' := ⟨fun pins st σ H D I z => h.run pins st σ H D I (i D σ H z)⟩
section
variable {X : Cx} {T : List (Addr × Str)} {c P C fI : Addr} {k : Nat} {cn fl : Str} {s : Stmt}
theorem row_some (M : MadeX X T c P k) (R : RowK X.prog X.K X.mg cn (some fl) C fI) (hs : IsRow cn (some fl) s) (hg : Gl X cn) : PS X s (tRow T C (some fl)) := by
  obtain ⟨p1, p2, p3, p4, p5, p6, p7, p8, p9, p10, p11, p12, p13, p14, p15, p16, p17, p18, p19, rfl, hln⟩ := hs
  obtain ⟨cl, bd⟩ := R.cl
  refine ps_imp (ps_expr (pe_bm PySem.F.plainAttrs_list PySem.F.slot_list_append PySem.F.type_list_append mt_append (pv 1 M.n1 M.v1)
    (pa_cons (pe_tup (pa_cons (pe_mk1 cl bd M.hr M.top hg R.gC R.kC (pv 0 M.n0 M.v0) R.nd) (pa_cons (pe_mkK cl bd M.hr M.top hg R.gC R.kC (pv 0 M.n0 M.v0) R.nd)
      (pa_cons (pe_lamV M.tb M.code M.hm M.hu (by rfl) (by rfl)) (pa_cons (pe_lstN (pa_cons (pv 0 M.n0 M.v0) pa_nil)) pa_nil))))) pa_nil) (hline := hln))) ?_
  intro D σ H h
  obtain ⟨x, p, items, h0, h1, hp, hl, hT, q⟩ := h
  refine ⟨_, h1, .inl ⟨rfl, _, .inl (.inl hp)⟩, ?_⟩
  refine ⟨_, h0, fun m dm nm ndm nem => ?_⟩
  have e1 := extN_new2 (o := exo m C (some dm)) (u := exd dm [(fl, x)]) nm ndm
  have T1 := tabs_new2 (o := exo m C (some dm)) (u := exd dm [(fl, x)]) hT nm ndm
  have K1 := kept_new (H := H) (C := C) (f := fl) (v := x) nem
  refine ⟨_, h0, fun w dw nw ndw new => ?_⟩
  have e2 := extN_new2 (o := exo w C (some dw)) (u := exd dw [(fl, x)]) nw ndw
  have T2 := tabs_new2 (o := exo w C (some dw)) (u := exd dw [(fl, x)]) T1 nw ndw
  have K2 := kept_new (H := upd (upd H dm (exd dm [(fl, x)])) m (exo m C (some dm))) (C := C) (f := fl) (v := x) new
  refine ⟨T2, fun H3 l c' e3 T3 nl hL hc => ?_⟩
  refine ⟨_, h0, by show 1 ≤ sizeLine; rw [sizeLine_eq]; omega, fun d nd nsd => ?_⟩
  have e4 := extN_new (o := HO.lst [x]) nd
  have T4 := tabs_new (o := HO.lst [x]) T3 nd
  refine ⟨by show 4 ≤ sizeLine; rw [sizeLine_eq]; omega, fun t nt => ?_⟩
  have e5 := extN_new (o := HO.tup [.ref m, .ref w, .ref l, .ref d]) nt
  have T5 := tabs_new (o := HO.tup [.ref m, .ref w, .ref l, .ref d]) T4 nt
  have eA := (((e1.trans e2).trans e3).trans e4).trans e5
  have hp5 := eA _ _ hp lst_notTbl
  have dp : d ≠ p := by
    have z := ((e1.trans e2).trans e3) _ _ hp lst_notTbl
    intro y
    rw [y, z] at nd
    cases nd
  have R5 : RowOk _ t C (some fl) x := ⟨m, w, l, d, upd_same, ErrOf.ext (fo := some fl) K1 (((e2.trans e3).trans e4).trans e5), ErrOf.ext (fo := some fl) K2 ((e3.trans e4).trans e5), ⟨_, _, _, c', LamIn.ext ⟨hL, hc, ⟨_, rfl⟩, ⟨_, _, _, rfl⟩⟩ (e4.trans e5)⟩, e5 _ _ upd_same lst_notTbl, nsd⟩
  refine ⟨p, _, _, rfl, rfl, hp5, by rw [sizeLine_eq]; omega, ?_⟩
  refine q _ t (fun b o nb e n => ?_) (tabs_lst T5 hp5) upd_same ⟨row_lst R5 hp5 fun m' w' l' d' z => ?_, m, w, l, d, ?_, dp⟩
  · rw [upd_ne nb]
    exact eA _ _ e n
  · rw [upd_same] at z
    cases z
    exact dp
  · rw [upd_ne (ne_of (o := HO.tup [.ref m, .ref w, .ref l, .ref d]) upd_same hp5 fun z => by cases z)]
    exact upd_same
theorem row_none (M : MadeX X T c P k) (R : RowK X.prog X.K X.mg cn none C fI) (hs : IsRow cn none s) (hg : Gl X cn) : PS X s (tRow T C none) := by
  obtain ⟨p1, p2, p3, p5, p6, p9, p10, p13, p14, p16, p17, p18, p19, rfl, hln⟩ := hs
  have cl := R.cl
  refine ps_imp (ps_expr (pe_bm PySem.F.plainAttrs_list PySem.F.slot_list_append PySem.F.type_list_append mt_append (pv 1 M.n1 M.v1)
    (pa_cons (pe_tup (pa_cons (pe_mk0 cl M.hr M.top hg R.gC R.kC R.nd) (pa_cons (pe_mk0 cl M.hr M.top hg R.gC R.kC R.nd)
      (pa_cons (pe_lamV M.tb M.code M.hm M.hu (by rfl) (by rfl)) (pa_cons (pe_lstN pa_nil) pa_nil))))) pa_nil) (hline := hln))) ?_
  intro D σ H h
  obtain ⟨x, p, items, h0, h1, hp, hl, hT, q⟩ := h
  refine ⟨_, h1, .inl ⟨rfl, _, .inl (.inl hp)⟩, ?_⟩
  refine fun m nm => ?_
  have e1 := extN_new (o := exo m C none) nm
  have T1 := tabs_new (o := exo m C none) hT nm
  refine fun w nw => ?_
  have e2 := extN_new (o := exo w C none) nw
  have T2 := tabs_new (o := exo w C none) T1 nw
  have K1 : ErrOf (upd H m (exo m C none)) m C none x := upd_same
  have K2 : ErrOf (upd (upd H m (exo m C none)) w (exo w C none)) w C none x := upd_same
  refine ⟨T2, fun H3 l c' e3 T3 nl hL hc => ?_⟩
  refine ⟨Nat.zero_le _, fun d nd nsd => ?_⟩
  have e4 := extN_new (o := HO.lst []) nd
  have T4 := tabs_new (o := HO.lst []) T3 nd
  refine ⟨by show 4 ≤ sizeLine; rw [sizeLine_eq]; omega, fun t nt => ?_⟩
  have e5 := extN_new (o := HO.tup [.ref m, .ref w, .ref l, .ref d]) nt
  have T5 := tabs_new (o := HO.tup [.ref m, .ref w, .ref l, .ref d]) T4 nt
  have eA := (((e1.trans e2).trans e3).trans e4).trans e5
  have hp5 := eA _ _ hp lst_notTbl
  have dp : d ≠ p := by
    have z := ((e1.trans e2).trans e3) _ _ hp lst_notTbl
    intro y
    rw [y, z] at nd
    cases nd
  have R5 : RowOk _ t C none x := ⟨m, w, l, d, upd_same, K1.ext (((e2.trans e3).trans e4).trans e5), K2.ext ((e3.trans e4).trans e5), ⟨_, _, _, c', LamIn.ext ⟨hL, hc, ⟨_, rfl⟩, ⟨_, rfl⟩⟩ (e4.trans e5)⟩, e5 _ _ upd_same lst_notTbl, nsd⟩
  refine ⟨p, _, _, rfl, rfl, hp5, by rw [sizeLine_eq]; omega, ?_⟩
  refine q _ t (fun b o nb e n => ?_) (tabs_lst T5 hp5) upd_same ⟨row_lst R5 hp5 fun m' w' l' d' z => ?_, m, w, l, d, ?_, dp⟩
  · rw [upd_ne nb]
    exact eA _ _ e n
  · rw [upd_same] at z
    cases z
    exact dp
  · rw [upd_ne (ne_of (o := HO.tup [.ref m, .ref w, .ref l, .ref d]) upd_same hp5 fun z => by cases z)]
    exact upd_same
theorem row_any {fo : Option Str} (M : MadeX X T c P k) (R : RowK X.prog X.K X.mg cn fo C fI) (hs : IsRow cn fo s) (hg : Gl X cn) : PS X s (tRow T C fo) := by
  cases fo with
  | none => exact row_none M R hs hg
  | some f => exact row_some M R hs hg
end
end OE
namespace OE
open PySem PySem.Spec PyProof.Rows L2 LamX
/-! ### all rows of a def that makes -/
abbrev Row := Addr × Option Str
inductive RowsOk (H : Hp) (x : V) : List Addr → List Row → Prop where
  | nil : RowsOk H x [] []
  | cons {t : Addr} {ts : List Addr} {r : Row} {rs : List Row} : RowOk H t r.1 r.2 x → RowsOk H x ts rs → RowsOk H x (t :: ts) (r :: rs)
theorem RowsOk.ext {H H' : Hp} {x : V} {ts : List Addr} {rs : List Row} (h : ExtN H H') (r : RowsOk H x ts rs) : RowsOk H' x ts rs := by
  induction r with
  | nil => exact .nil
  | cons a _ ih => exact .cons (a.ext h) ih
theorem RowsOk.append {H : Hp} {x : V} {ts us : List Addr} {rs qs : List Row} (r : RowsOk H x ts rs) (q : RowsOk H x us qs) : RowsOk H x (ts ++ us) (rs ++ qs) := by
  induction r with
  | nil => exact q
  | cons a _ ih => exact .cons a ih
theorem RowsOk.length {H : Hp} {x : V} {ts : List Addr} {rs : List Row} (r : RowsOk H x ts rs) : ts.length = rs.length := by
  induction r with
  | nil => rfl
  | cons _ _ ih => rw [List.length_cons, List.length_cons, ih]
theorem RowsOk.get {H : Hp} {x : V} {ts : List Addr} {rs : List Row} (r : RowsOk H x ts rs) : ∀ {i : Nat} {q : Row}, rs[i]? = some q → ∃ t, ts[i]? = some t ∧ RowOk H t q.1 q.2 x := by
  induction r with
  | nil => intro i q e; simp at e
  | @cons t ts r rs a _ ih =>
    intro i q e
    cases i with
    | zero =>
      simp at e
      subst e
      exact ⟨t, rfl, a⟩
    | succ i => exact ih (i := i) (by simpa using e)
inductive RowsAt (p : Addr) (H : Hp) (x : V) : List Addr → List Row → Prop where
  | nil : RowsAt p H x [] []
  | cons {t : Addr} {ts : List Addr} {r : Row} {rs : List Row} : RowAt p H t r.1 r.2 x → RowsAt p H x ts rs → RowsAt p H x (t :: ts) (r :: rs)
theorem RowsAt.ok {p : Addr} {H : Hp} {x : V} {ts : List Addr} {rs : List Row} (r : RowsAt p H x ts rs) : RowsOk H x ts rs := by
  induction r with
  | nil => exact .nil
  | cons a _ ih => exact .cons a.1 ih
theorem RowsAt.ext {p : Addr} {H H' : Hp} {x : V} {ts : List Addr} {rs : List Row} {xs : List V} (hp : H p = some (.lst xs)) (h : ExtP p H H') (r : RowsAt p H x ts rs) : RowsAt p H' x ts rs := by
  induction r with
  | nil => exact .nil
  | cons a _ ih => exact .cons (a.ext hp h) ih
theorem RowsAt.snoc {p : Addr} {H : Hp} {x : V} {t : Addr} {ts : List Addr} {r : Row} {rs : List Row} (a : RowsAt p H x ts rs) (b : RowAt p H t r.1 r.2 x) : RowsAt p H x (ts ++ [t]) (rs ++ [r]) := by
  induction a with
  | nil => exact .cons b .nil
  | cons c _ ih => exact .cons c ih
theorem ExtP.trans {p : Addr} {H H1 H2 : Hp} (a : ExtP p H H1) (b : ExtP p H1 H2) : ExtP p H H2 := fun x o n e q => b x o n (a x o n e q) q
inductive RowStms (X : Cx) (T : List (Addr × Str)) : List Stmt → List Row → Prop where
  | nil : RowStms X T [] []
  | cons {s : Stmt} {ss : List Stmt} {r : Row} {rs : List Row} : PS X s (tRow T r.1 r.2) → RowStms X T ss rs → RowStms X T (s :: ss) (r :: rs)
def tRows (T : List (Addr × Str)) (done rs : List Row) (t : TS) : TS := fun D σ H => ∃ x p ts, σ[0]? = some (some x) ∧ σ[1]? = some (some (.ref p)) ∧ H p = some (.lst (ts.map V.ref)) ∧ done.length + rs.length < 1000 ∧ Tabs T H ∧ RowsAt p H x ts done ∧
  ∀ H' us, ExtP p H H' → Tabs T H' → H' p = some (.lst (us.map V.ref)) → RowsAt p H' x us (done ++ rs) → t D σ H'
theorem RowsAt.length {p : Addr} {H : Hp} {x : V} {ts : List Addr} {rs : List Row} (r : RowsAt p H x ts rs) : ts.length = rs.length := r.ok.length
theorem rows_run {X : Cx} {T : List (Addr × Str)} {rest : List Stmt} {t : TS} (hr : PSs X rest t) : ∀ {ss : List Stmt} {rs : List Row}, RowStms X T ss rs → ∀ done : List Row, PSs X (ss ++ rest) (tRows T done rs t) := by
  intro ss rs h
  induction h with
  | nil =>
    intro done
    refine ⟨fun pins s σ H D I h => hr.run pins s σ H D I ?_⟩
    obtain ⟨x, p, ts, h0, h1, hp, hl, hT, hA, q⟩ := h
    exact q H ts (fun b o _ e _ => e) hT hp (by rw [List.append_nil]; exact hA)
  | @cons s0 ss r rs a _ ih =>
    intro done
    have z := pss_cons a (ih (done ++ [r]))
    refine ⟨fun pins s σ H D I h => z.run pins s σ H D I ?_⟩
    obtain ⟨x, p, ts, h0, h1, hp, hl, hT, hA, q⟩ := h
    rw [List.length_cons] at hl
    refine ⟨x, p, ts.map V.ref, h0, h1, hp, by rw [List.length_map, hA.length]; omega, hT, fun H' t e T' hp' R => ?_⟩
    have hp2 : H' p = some (.lst ((ts ++ [t]).map V.ref)) := by rw [List.map_append]; exact hp'
    refine ⟨x, p, ts ++ [t], h0, h1, hp2, by rw [List.length_append, List.length_singleton]; omega, T', (hA.ext hp e).snoc R, fun H2 us e2 T2 hp3 R2 => ?_⟩
    exact q H2 us (e.trans e2) T2 hp3 (by rw [List.append_assoc] at R2; exact R2)
/-- the promise of a def that makes rows -/
def spMade (T : List (Addr × Str)) (rs : List Row) : Sp := fun vs H Q _ => ∃ x, vs = [x] ∧ Tabs T H ∧ ∀ H' p ts, ExtN H H' → Tabs T H' → H p = none → H' p = some (.lst (ts.map V.ref)) → RowsOk H' x ts rs → Q (.ref p) H'
theorem made_body {X : Cx} {T : List (Addr × Str)} {rs : List Row} {ss : List Stmt} {p1 p2 p3 p4 p5 : Pos} (nd : X.N.Nodup) (hN : X.N = [("_law_x" : Str), "_law_found"]) (l0 : Vis X.env.scope "_law_x") (l1 : X.env.scope.names.lookup ("_law_found" : Str) = some .local) (S : RowStms X T ss rs) (hl : rs.length < 900) :
    PSs X (.Assign [.Name "_law_found" p1] (.List [] p2) p3 :: (ss ++ [.Return (some (.Name "_law_found" p4)) p5]))
      (fun D σ H => ∃ x, σ = [some x, none] ∧ Tabs T H ∧ ∀ H' p ts, ExtN H H' → Tabs T H' → H p = none → H' p = some (.lst (ts.map V.ref)) → RowsOk H' x ts rs → D.rt (.ref p) H') := by
  have n1 : X.N[1]? = some ("_law_found" : Str) := by rw [hN] <;> rfl
  have z := pss_cons (ps_set (i := 1) (pos := p3) (pos' := p1) nd n1 (.inl l1) (pe_lst (pos := p2) (X := X) pa_nil) (hf := .inr l1)) (rows_run (pss_one (ps_ret (pos := p5) (pv 1 (pos := p4) n1 (.inl l1)))) S [])
  refine ⟨fun pins s σ H D I h => z.run pins s σ H D I ?_⟩
  obtain ⟨x, rfl, hT, q⟩ := h
  refine ⟨Nat.zero_le _, fun p np => ?_⟩
  refine ⟨x, p, [], rfl, rfl, upd_same, by show 0 + rs.length < 1000; omega, tabs_new hT np, .nil, fun H' us e T' hp' R => ?_⟩
  refine ⟨_, rfl, q H' p us (fun b o hb n => e b o (ne_of_none hb np) (by rw [upd_ne (ne_of_none hb np)]; exact hb) n) T' np hp' R.ok⟩
end OE
namespace OE
open PySem PySem.Spec PyProof.Rows L2 LamX
/-! ### of which classes an error is -/
def IsAsk (cn : Str) (e : Expr) : Prop := ∃ p3 p4 p5 p6, e = .Call (.Name "isinstance" p3) [.Name "_law_e" p4, .Name cn p5] [] p6
inductive Asks : List Str → List Expr → Prop where
  | nil : Asks [] []
  | cons {n : Str} {ns : List Str} {e : Expr} {es : List Expr} : IsAsk n e → Asks ns es → Asks (n :: ns) (e :: es)
def IsKin (ns : List Str) (s : Stmt) : Prop := ∃ p1 p2 p3 p4 p5 es, s = .Assign [.Name "_law_found" p1] (.BinOp (.Name "_law_found" p2) .Add (.List es p3) p4) p5 ∧ Asks ns es
inductive Kins : List (List Str) → List Stmt → Prop where
  | nil : Kins [] []
  | cons {n : List Str} {ns : List (List Str)} {s : Stmt} {ss : List Stmt} : IsKin n s → Kins ns ss → Kins (n :: ns) (s :: ss)
/-- the classes' addresses by their names -/
inductive ClsG (X : Cx) : List Str → List Addr → Prop where
  | nil : ClsG X [] []
  | cons {n : Str} {ns : List Str} {C : Addr} {cs : List Addr} : Gl X n → (n == ("__debug__" : Str)) = false → X.mg n = some (.ref C) → ClsG X ns cs → ClsG X (n :: ns) (C :: cs)
theorem ClsG.append {X : Cx} {ns ms : List Str} : ∀ {cs : List Addr}, ClsG X (ns ++ ms) cs → ∃ ds es, cs = ds ++ es ∧ ClsG X ns ds ∧ ClsG X ms es := by
  induction ns with
  | nil => exact fun {cs} G => ⟨[], cs, rfl, .nil, G⟩
  | cons n ns ih =>
    intro cs G
    cases G with
    | cons g1 g2 g3 G' =>
      obtain ⟨d1, e1, rfl, A, B⟩ := ih G'
      exact ⟨_ :: d1, e1, rfl, .cons g1 g2 g3 A, B⟩
/-- the answers for an error of the class at C -/
def ans (C : Addr) (ds : List Addr) : List V := ds.map fun D => .bl (decide (C = D))
def KinK (K : PySem.W.Frag) (C : Addr) (ds : List Addr) : Prop := ∀ D ∈ ds, PySem.W.kitOne K (.ref C) (.ref D) = some (decide (C = D))
structure KinX (X : Cx) : Prop where
  n0 : X.N[0]? = some ("_law_e" : Str)
  n1 : X.N[1]? = some ("_law_found" : Str)
  nd : X.N.Nodup
  v0 : Vis X.env.scope "_law_e"
  l1 : X.env.scope.names.lookup ("_law_found" : Str) = some .local
  gi : Gl X "isinstance"
  mi : X.mg "isinstance" = none
  ak : AskedK X.K
theorem bootIsi : bootBuiltins "isinstance" = some (.builtin "isinstance") := by decide +kernel
theorem same_new {H : Hp} {a : Addr} {o : HO} (h : H a = none) : Same H (upd H a o) := fun b u e => by
  rw [upd_ne (ne_of_none e h)]
  exact e
theorem Same.extN {H H' : Hp} (h : Same H H') : ExtN H H' := ExtN.of h
def tAsks (K : PySem.W.Frag) (ds : List Addr) : TA := fun σ H Q => ∃ a C, σ[0]? = some (some (.ref a)) ∧ ErrAt H a C ∧ Asked K C ∧ KinK K C ds ∧ Q (ans C ds) H
section
variable {X : Cx}
theorem pa_imp {es : List Expr} {t t' : TA} (h : PA X es t) (i : ∀ σ H Q, t' σ H Q → t σ H Q) : PA X es t' := ⟨fun pos pins s σ H Q I z => h.run pos pins s σ H Q I (i σ H Q z)⟩
theorem pa_asks (M : KinX X) : ∀ {ns : List Str} {es : List Expr}, Asks ns es → ∀ {ds : List Addr}, ClsG X ns ds → PA X es (tAsks X.K ds) := by
  intro ns es h
  induction h with
  | nil =>
    intro ds G
    cases G
    exact pa_imp pa_nil fun σ H Q ⟨a, C, h1, h2, h3, h4, q⟩ => q
  | @cons n ns e es ha _ ih =>
    intro ds G
    obtain ⟨p3, p4, p5, p6, rfl⟩ := ha
    cases G with
    | @cons _ _ D ds g1 g2 g3 G' =>
      have one := pe_callB (pos := p6) (p := p3) (call_isV M.ak) M.gi M.mi bootIsi (pa_cons (pv 0 (pos := p4) M.n0 M.v0) (pa_cons (pe_glob (v := .ref D) (pos := p5) g1 g3 rfl g2) pa_nil))
      refine pa_imp (pa_cons one (ih G')) fun σ H Q ⟨a, C, h1, h2, h3, h4, q⟩ => ?_
      refine ⟨_, h1, a, C, .ref D, .ref D, decide (C = D), rfl, h2, h3, .own D, h4 D (List.mem_cons_self ..), ?_⟩
      exact ⟨a, C, h1, h2, h3, fun D' m => h4 D' (List.mem_cons_of_mem _ m), q⟩
def tKin (K : PySem.W.Frag) (ds : List Addr) : TS := fun D σ H => ∃ a C p xs, σ[0]? = some (some (.ref a)) ∧ σ.length = 2 ∧ σ[1]? = some (some (.ref p)) ∧ H p = some (.lst xs) ∧ xs.length + ds.length < 1000 ∧ ErrAt H a C ∧ Asked K C ∧ KinK K C ds ∧
  ∀ H' p', Same H H' → H' p' = some (.lst (xs ++ ans C ds)) → D.nx [some (.ref a), some (.ref p')] H'
theorem ErrAt.ext {H H' : Hp} {a C : Addr} (h : ErrAt H a C) (e : ExtN H H') : ErrAt H' a C := by
  rcases h with h | ⟨d, f, v, h, h'⟩
  · exact .inl (e _ _ h exo_notTbl)
  · exact .inr ⟨d, f, v, e _ _ h exo_notTbl, e _ _ h' exd_notTbl⟩
theorem two_slots {σ : L2.St} {u v : Option V} (h0 : σ[0]? = some u) (hl : σ.length = 2) : σ.set 1 v = [u, v] := by
  match σ, hl with
  | [a, b], _ =>
    simp at h0
    subst h0
    rfl
theorem ps_kin (M : KinX X) {ns : List Str} {s : Stmt} (hs : IsKin ns s) {ds : List Addr} (G : ClsG X ns ds) : PS X s (tKin X.K ds) := by
  obtain ⟨p1, p2, p3, p4, p5, es, rfl, A⟩ := hs
  refine ps_imp (ps_set (i := 1) M.nd M.n1 (.inl M.l1) (pe_op op_cat (pv 1 M.n1 (.inl M.l1)) (pe_lst (pa_asks M A G))) (hf := .inr M.l1)) ?_
  intro D σ H ⟨a, C, p, xs, h0, h2, h1, hp, hl, hE, hA, hK, q⟩
  have el : (ans C ds).length = ds.length := by unfold ans; rw [List.length_map]
  refine ⟨_, h1, a, C, h0, hE, hA, hK, by rw [el, sizeLine_eq]; omega, fun l nl => ?_⟩
  have e1 := same_new (o := HO.lst (ans C ds)) nl
  refine ⟨p, l, xs, ans C ds, rfl, rfl, e1 _ _ hp, upd_same, by rw [el, sizeLine_eq]; omega, fun p' np => ?_⟩
  show D.nx (σ.set 1 (some (.ref p'))) _
  rw [two_slots h0 h2]
  exact q _ p' (L2.Same.trans e1 (same_new np)) upd_same
def tKins (K : PySem.W.Frag) (ds : List Addr) (t : TS) : TS := fun D σ H => ∃ a C p xs, σ = [some (.ref a), some (.ref p)] ∧ H p = some (.lst xs) ∧ xs.length + ds.length < 1000 ∧ ErrAt H a C ∧ Asked K C ∧ KinK K C ds ∧
  ∀ H' p', Same H H' → H' p' = some (.lst (xs ++ ans C ds)) → t D [some (.ref a), some (.ref p')] H'
theorem kins_run (M : KinX X) {rest : List Stmt} {t : TS} (hr : PSs X rest t) : ∀ {nss : List (List Str)} {ss : List Stmt}, Kins nss ss → ∀ {ds : List Addr}, ClsG X nss.flatten ds → PSs X (ss ++ rest) (tKins X.K ds t) := by
  intro nss ss h
  induction h with
  | nil =>
    intro ds G
    cases G
    refine ⟨fun pins s σ H D I h => hr.run pins s σ H D I ?_⟩
    obtain ⟨a, C, p, xs, rfl, hp, hl, hE, hA, hK, q⟩ := h
    exact q H p (L2.Same.refl H) (by rw [show ans C [] = [] from rfl, List.append_nil]; exact hp)
  | @cons n ns s0 ss h1 _ ih =>
    intro ds G
    rw [List.flatten_cons] at G
    obtain ⟨d1, d2, rfl, G1, G2⟩ := G.append
    have z := pss_cons (ps_kin M h1 G1) (ih G2)
    refine ⟨fun pins s σ H D I h => z.run pins s σ H D I ?_⟩
    obtain ⟨a, C, p, xs, rfl, hp, hl, hE, hA, hK, q⟩ := h
    rw [List.length_append] at hl
    have el : (ans C d1).length = d1.length := by unfold ans; rw [List.length_map]
    refine ⟨a, C, p, xs, rfl, rfl, rfl, hp, by omega, hE, hA, fun D m => hK D (List.mem_append_left _ m), fun H' p' e hp' => ?_⟩
    refine ⟨a, C, p', xs ++ ans C d1, rfl, hp', by rw [List.length_append, el]; omega, hE.ext (Same.extN e), hA, fun D m => hK D (List.mem_append_right _ m), fun H2 p2 e2 hp2 => ?_⟩
    refine q H2 p2 (L2.Same.trans e e2) ?_
    rw [hp2, List.append_assoc]
    unfold ans
    rw [List.map_append]
/-- the promise of a def that asks -/
def spKins (K : PySem.W.Frag) (ds : List Addr) : Sp := fun vs H Q _ => ∃ a C, vs = [.ref a] ∧ ErrAt H a C ∧ Asked K C ∧ KinK K C ds ∧ ∀ H' p, Same H H' → H' p = some (.lst (ans C ds)) → Q (.ref p) H'
theorem kins_body (M : KinX X) {nss : List (List Str)} {ss : List Stmt} {ds : List Addr} {p1 p2 p3 p4 p5 : Pos} (S : Kins nss ss) (G : ClsG X nss.flatten ds) (hl : ds.length < 900) :
    PSs X (.Assign [.Name "_law_found" p1] (.List [] p2) p3 :: (ss ++ [.Return (some (.Name "_law_found" p4)) p5]))
      (fun D σ H => ∃ a C, σ = [some (.ref a), none] ∧ ErrAt H a C ∧ Asked X.K C ∧ KinK X.K C ds ∧ ∀ H' p, Same H H' → H' p = some (.lst (ans C ds)) → D.rt (.ref p) H') := by
  have z := pss_cons (ps_set (i := 1) (pos := p3) (pos' := p1) M.nd M.n1 (.inl M.l1) (pe_lst (pos := p2) (X := X) pa_nil) (hf := .inr M.l1)) (kins_run M (pss_one (ps_ret (pos := p5) (pv 1 (pos := p4) M.n1 (.inl M.l1)))) S G)
  refine ⟨fun pins s σ H D I h => z.run pins s σ H D I ?_⟩
  obtain ⟨a, C, rfl, hE, hA, hK, q⟩ := h
  refine ⟨Nat.zero_le _, fun p np => ?_⟩
  refine ⟨a, C, p, [], rfl, upd_same, by show 0 + ds.length < 1000; omega, hE.ext (extN_new np), hA, hK, fun H' p' e hp' => ?_⟩
  exact ⟨_, rfl, q H' p' (L2.Same.trans (same_new np) e) hp'⟩
end
end OE
namespace OE
open PySem PySem.Spec PyProof.Rows L2 LamX
/-! ### the law's text by places -/
abbrev sMadeA : Stmt := OA.top 74
abbrev sMadeB : Stmt := OA.top 75
abbrev sKinA : Stmt := OA.top 76
abbrev sKinB : Stmt := OA.top 77
abbrev sOwn : Stmt := OA.top 78
abbrev sSame : Stmt := OA.top 79
abbrev sLaw : Stmt := OA.top 80
def inBody (s : Stmt) (i : Nat) : Stmt := (defBody s).getD i (.Pass ⟨0, 0, 0, 0⟩)
def rowsA : List (Str × Option Str) := ("BadAddresses", some "index") :: ("BadMost", some "most") :: ("BadLand", some "thing") :: ("BadDeeds", some "index") :: ("BadMoment", some "moment") :: ("NoAddress", some "address") :: ("BadPiece", some "piece") :: ("BadIndex", some "index") :: ("CannotBeDone", some "deed") :: ("BadNumbers", some "index") :: ("NotMade", some "piece") :: ("BadTimes", some "times") :: ("BadLife", some "life") :: ("BadHolder", some "holder") :: ("BadPolicy", some "policy") :: ("BadDue", some "due") :: ("BadPromise", some "promise") :: ("BadWidth", some "width") :: ("BadTable", some "thing") :: ("BadView", some "view") :: ("NoWord", some "thing") :: ("BadMarks", some "marks") :: ("BadTurn", some "k") :: ("BadState", some "state") :: ("UnlikeLands", none) :: ("BadWord", some "word") :: ("BadDiscipline", some "thing") :: ("BadWithin", some "within") :: ("BadAsks", some "index") :: ("BadWish", some "wish") :: ("BadPrices", some "prices") :: []
def rowsB : List (Str × Option Str) := ("BadBook", some "book") :: ("BadDay", some "day") :: ("BadPace", some "pace") :: ("BadRest", some "rest") :: ("BadMoves", some "moves") :: ("BadIdle", some "idle") :: ("BadLetters", some "index") :: ("BadPostage", some "index") :: ("BadStamp", some "stamp") :: ("BadRent", some "rent") :: ("BadStays", some "index") :: ("BadMany", some "many") :: ("BadHistory", some "history") :: ("BadOwners", some "owners") :: ("BadHeirs", some "heirs") :: ("BadTurns", some "index") :: ("NoHouse", some "house") :: ("BadHouses", some "index") :: ("NotARow", none) :: ("BadSeen", some "index") :: ("BadHistories", some "index") :: ("Crowded", some "address") :: ("BadFunction", some "thing") :: ("CanBeKept", none) :: ("BadWriter", some "writer") :: ("BadSlate", some "thing") :: ("BadTruth", some "thing") :: ("BadLooks", some "index") :: ("BadOrder", some "order") :: ("IsWatched", some "promise") :: ("NotWatched", some "promise") :: ("Broken", some "promise") :: ("WouldBreak", some "promise") :: ("BadNumber", some "number") :: ("BadThing", some "thing") :: ("BadText", some "line") :: []
def kinsA : List (List Str) := [["BadAddresses", "BadMost"], ["BadLand", "BadDeeds"], ["BadMoment", "NoAddress"], ["BadPiece", "BadIndex"], ["CannotBeDone", "BadNumbers"], ["NotMade", "BadTimes"], ["BadLife", "BadHolder"], ["BadPolicy", "BadDue"], ["BadPromise", "BadWidth"], ["BadTable", "BadView"], ["NoWord", "BadMarks"], ["BadTurn", "BadState"], ["UnlikeLands", "BadWord"], ["BadDiscipline", "BadWithin"], ["BadAsks", "BadWish"], ["BadPrices"]]
def kinsB : List (List Str) := [["BadBook", "BadDay"], ["BadPace", "BadRest"], ["BadMoves", "BadIdle"], ["BadLetters", "BadPostage"], ["BadStamp", "BadRent"], ["BadStays", "BadMany"], ["BadHistory", "BadOwners"], ["BadHeirs", "BadTurns"], ["NoHouse", "BadHouses"], ["NotARow", "BadSeen"], ["BadHistories", "Crowded"], ["BadFunction", "CanBeKept"], ["BadWriter", "BadSlate"], ["BadTruth", "BadLooks"], ["BadOrder", "IsWatched"], ["NotWatched", "Broken"], ["WouldBreak", "BadNumber"], ["BadThing", "BadText"]]
inductive AreRows : List (Str × Option Str) → List Stmt → Prop where
  | nil : AreRows [] []
  | cons {n : Str} {fo : Option Str} {rs : List (Str × Option Str)} {s : Stmt} {ss : List Stmt} : IsRow n fo s → AreRows rs ss → AreRows ((n, fo) :: rs) (s :: ss)
def stmsA : List Stmt := inBody sMadeA 1 :: inBody sMadeA 2 :: inBody sMadeA 3 :: inBody sMadeA 4 :: inBody sMadeA 5 :: inBody sMadeA 6 :: inBody sMadeA 7 :: inBody sMadeA 8 :: inBody sMadeA 9 :: inBody sMadeA 10 :: inBody sMadeA 11 :: inBody sMadeA 12 :: inBody sMadeA 13 :: inBody sMadeA 14 :: inBody sMadeA 15 :: inBody sMadeA 16 :: inBody sMadeA 17 :: inBody sMadeA 18 :: inBody sMadeA 19 :: inBody sMadeA 20 :: inBody sMadeA 21 :: inBody sMadeA 22 :: inBody sMadeA 23 :: inBody sMadeA 24 :: inBody sMadeA 25 :: inBody sMadeA 26 :: inBody sMadeA 27 :: inBody sMadeA 28 :: inBody sMadeA 29 :: inBody sMadeA 30 :: inBody sMadeA 31 :: []
theorem rowA0 : IsRow "BadAddresses" (some "index") (inBody sMadeA 1) := ⟨_, _, _, _, _, _, _, _, _, _, _, _, _, _, _, _, _, _, _, rfl, rfl⟩
theorem rowA1 : IsRow "BadMost" (some "most") (inBody sMadeA 2) := ⟨_, _, _, _, _, _, _, _, _, _, _, _, _, _, _, _, _, _, _, rfl, rfl⟩
theorem rowA2 : IsRow "BadLand" (some "thing") (inBody sMadeA 3) := ⟨_, _, _, _, _, _, _, _, _, _, _, _, _, _, _, _, _, _, _, rfl, rfl⟩
theorem rowA3 : IsRow "BadDeeds" (some "index") (inBody sMadeA 4) := ⟨_, _, _, _, _, _, _, _, _, _, _, _, _, _, _, _, _, _, _, rfl, rfl⟩
theorem rowA4 : IsRow "BadMoment" (some "moment") (inBody sMadeA 5) := ⟨_, _, _, _, _, _, _, _, _, _, _, _, _, _, _, _, _, _, _, rfl, rfl⟩
theorem rowA5 : IsRow "NoAddress" (some "address") (inBody sMadeA 6) := ⟨_, _, _, _, _, _, _, _, _, _, _, _, _, _, _, _, _, _, _, rfl, rfl⟩
theorem rowA6 : IsRow "BadPiece" (some "piece") (inBody sMadeA 7) := ⟨_, _, _, _, _, _, _, _, _, _, _, _, _, _, _, _, _, _, _, rfl, rfl⟩
theorem rowA7 : IsRow "BadIndex" (some "index") (inBody sMadeA 8) := ⟨_, _, _, _, _, _, _, _, _, _, _, _, _, _, _, _, _, _, _, rfl, rfl⟩
theorem rowA8 : IsRow "CannotBeDone" (some "deed") (inBody sMadeA 9) := ⟨_, _, _, _, _, _, _, _, _, _, _, _, _, _, _, _, _, _, _, rfl, rfl⟩
theorem rowA9 : IsRow "BadNumbers" (some "index") (inBody sMadeA 10) := ⟨_, _, _, _, _, _, _, _, _, _, _, _, _, _, _, _, _, _, _, rfl, rfl⟩
theorem rowA10 : IsRow "NotMade" (some "piece") (inBody sMadeA 11) := ⟨_, _, _, _, _, _, _, _, _, _, _, _, _, _, _, _, _, _, _, rfl, rfl⟩
theorem rowA11 : IsRow "BadTimes" (some "times") (inBody sMadeA 12) := ⟨_, _, _, _, _, _, _, _, _, _, _, _, _, _, _, _, _, _, _, rfl, rfl⟩
theorem rowA12 : IsRow "BadLife" (some "life") (inBody sMadeA 13) := ⟨_, _, _, _, _, _, _, _, _, _, _, _, _, _, _, _, _, _, _, rfl, rfl⟩
theorem rowA13 : IsRow "BadHolder" (some "holder") (inBody sMadeA 14) := ⟨_, _, _, _, _, _, _, _, _, _, _, _, _, _, _, _, _, _, _, rfl, rfl⟩
theorem rowA14 : IsRow "BadPolicy" (some "policy") (inBody sMadeA 15) := ⟨_, _, _, _, _, _, _, _, _, _, _, _, _, _, _, _, _, _, _, rfl, rfl⟩
theorem rowA15 : IsRow "BadDue" (some "due") (inBody sMadeA 16) := ⟨_, _, _, _, _, _, _, _, _, _, _, _, _, _, _, _, _, _, _, rfl, rfl⟩
theorem rowA16 : IsRow "BadPromise" (some "promise") (inBody sMadeA 17) := ⟨_, _, _, _, _, _, _, _, _, _, _, _, _, _, _, _, _, _, _, rfl, rfl⟩
theorem rowA17 : IsRow "BadWidth" (some "width") (inBody sMadeA 18) := ⟨_, _, _, _, _, _, _, _, _, _, _, _, _, _, _, _, _, _, _, rfl, rfl⟩
theorem rowA18 : IsRow "BadTable" (some "thing") (inBody sMadeA 19) := ⟨_, _, _, _, _, _, _, _, _, _, _, _, _, _, _, _, _, _, _, rfl, rfl⟩
theorem rowA19 : IsRow "BadView" (some "view") (inBody sMadeA 20) := ⟨_, _, _, _, _, _, _, _, _, _, _, _, _, _, _, _, _, _, _, rfl, rfl⟩
theorem rowA20 : IsRow "NoWord" (some "thing") (inBody sMadeA 21) := ⟨_, _, _, _, _, _, _, _, _, _, _, _, _, _, _, _, _, _, _, rfl, rfl⟩
theorem rowA21 : IsRow "BadMarks" (some "marks") (inBody sMadeA 22) := ⟨_, _, _, _, _, _, _, _, _, _, _, _, _, _, _, _, _, _, _, rfl, rfl⟩
theorem rowA22 : IsRow "BadTurn" (some "k") (inBody sMadeA 23) := ⟨_, _, _, _, _, _, _, _, _, _, _, _, _, _, _, _, _, _, _, rfl, rfl⟩
theorem rowA23 : IsRow "BadState" (some "state") (inBody sMadeA 24) := ⟨_, _, _, _, _, _, _, _, _, _, _, _, _, _, _, _, _, _, _, rfl, rfl⟩
theorem rowA24 : IsRow "UnlikeLands" (none) (inBody sMadeA 25) := ⟨_, _, _, _, _, _, _, _, _, _, _, _, _, rfl, rfl⟩
theorem rowA25 : IsRow "BadWord" (some "word") (inBody sMadeA 26) := ⟨_, _, _, _, _, _, _, _, _, _, _, _, _, _, _, _, _, _, _, rfl, rfl⟩
theorem rowA26 : IsRow "BadDiscipline" (some "thing") (inBody sMadeA 27) := ⟨_, _, _, _, _, _, _, _, _, _, _, _, _, _, _, _, _, _, _, rfl, rfl⟩
theorem rowA27 : IsRow "BadWithin" (some "within") (inBody sMadeA 28) := ⟨_, _, _, _, _, _, _, _, _, _, _, _, _, _, _, _, _, _, _, rfl, rfl⟩
theorem rowA28 : IsRow "BadAsks" (some "index") (inBody sMadeA 29) := ⟨_, _, _, _, _, _, _, _, _, _, _, _, _, _, _, _, _, _, _, rfl, rfl⟩
theorem rowA29 : IsRow "BadWish" (some "wish") (inBody sMadeA 30) := ⟨_, _, _, _, _, _, _, _, _, _, _, _, _, _, _, _, _, _, _, rfl, rfl⟩
theorem rowA30 : IsRow "BadPrices" (some "prices") (inBody sMadeA 31) := ⟨_, _, _, _, _, _, _, _, _, _, _, _, _, _, _, _, _, _, _, rfl, rfl⟩
theorem areRowsA : AreRows rowsA stmsA := .cons rowA0 (.cons rowA1 (.cons rowA2 (.cons rowA3 (.cons rowA4 (.cons rowA5 (.cons rowA6 (.cons rowA7 (.cons rowA8 (.cons rowA9 (.cons rowA10 (.cons rowA11 (.cons rowA12 (.cons rowA13 (.cons rowA14 (.cons rowA15 (.cons rowA16 (.cons rowA17 (.cons rowA18 (.cons rowA19 (.cons rowA20 (.cons rowA21 (.cons rowA22 (.cons rowA23 (.cons rowA24 (.cons rowA25 (.cons rowA26 (.cons rowA27 (.cons rowA28 (.cons rowA29 (.cons rowA30 (.nil)))))))))))))))))))))))))))))))
theorem bodyA : ∃ p1 p2 p3 p4 p5, defBody sMadeA = .Assign [.Name "_law_found" p1] (.List [] p2) p3 :: (stmsA ++ [.Return (some (.Name "_law_found" p4)) p5]) := ⟨_, _, _, _, _, rfl⟩
def stmsB : List Stmt := inBody sMadeB 1 :: inBody sMadeB 2 :: inBody sMadeB 3 :: inBody sMadeB 4 :: inBody sMadeB 5 :: inBody sMadeB 6 :: inBody sMadeB 7 :: inBody sMadeB 8 :: inBody sMadeB 9 :: inBody sMadeB 10 :: inBody sMadeB 11 :: inBody sMadeB 12 :: inBody sMadeB 13 :: inBody sMadeB 14 :: inBody sMadeB 15 :: inBody sMadeB 16 :: inBody sMadeB 17 :: inBody sMadeB 18 :: inBody sMadeB 19 :: inBody sMadeB 20 :: inBody sMadeB 21 :: inBody sMadeB 22 :: inBody sMadeB 23 :: inBody sMadeB 24 :: inBody sMadeB 25 :: inBody sMadeB 26 :: inBody sMadeB 27 :: inBody sMadeB 28 :: inBody sMadeB 29 :: inBody sMadeB 30 :: inBody sMadeB 31 :: inBody sMadeB 32 :: inBody sMadeB 33 :: inBody sMadeB 34 :: inBody sMadeB 35 :: inBody sMadeB 36 :: []
theorem rowB0 : IsRow "BadBook" (some "book") (inBody sMadeB 1) := ⟨_, _, _, _, _, _, _, _, _, _, _, _, _, _, _, _, _, _, _, rfl, rfl⟩
theorem rowB1 : IsRow "BadDay" (some "day") (inBody sMadeB 2) := ⟨_, _, _, _, _, _, _, _, _, _, _, _, _, _, _, _, _, _, _, rfl, rfl⟩
theorem rowB2 : IsRow "BadPace" (some "pace") (inBody sMadeB 3) := ⟨_, _, _, _, _, _, _, _, _, _, _, _, _, _, _, _, _, _, _, rfl, rfl⟩
theorem rowB3 : IsRow "BadRest" (some "rest") (inBody sMadeB 4) := ⟨_, _, _, _, _, _, _, _, _, _, _, _, _, _, _, _, _, _, _, rfl, rfl⟩
theorem rowB4 : IsRow "BadMoves" (some "moves") (inBody sMadeB 5) := ⟨_, _, _, _, _, _, _, _, _, _, _, _, _, _, _, _, _, _, _, rfl, rfl⟩
theorem rowB5 : IsRow "BadIdle" (some "idle") (inBody sMadeB 6) := ⟨_, _, _, _, _, _, _, _, _, _, _, _, _, _, _, _, _, _, _, rfl, rfl⟩
theorem rowB6 : IsRow "BadLetters" (some "index") (inBody sMadeB 7) := ⟨_, _, _, _, _, _, _, _, _, _, _, _, _, _, _, _, _, _, _, rfl, rfl⟩
theorem rowB7 : IsRow "BadPostage" (some "index") (inBody sMadeB 8) := ⟨_, _, _, _, _, _, _, _, _, _, _, _, _, _, _, _, _, _, _, rfl, rfl⟩
theorem rowB8 : IsRow "BadStamp" (some "stamp") (inBody sMadeB 9) := ⟨_, _, _, _, _, _, _, _, _, _, _, _, _, _, _, _, _, _, _, rfl, rfl⟩
theorem rowB9 : IsRow "BadRent" (some "rent") (inBody sMadeB 10) := ⟨_, _, _, _, _, _, _, _, _, _, _, _, _, _, _, _, _, _, _, rfl, rfl⟩
theorem rowB10 : IsRow "BadStays" (some "index") (inBody sMadeB 11) := ⟨_, _, _, _, _, _, _, _, _, _, _, _, _, _, _, _, _, _, _, rfl, rfl⟩
theorem rowB11 : IsRow "BadMany" (some "many") (inBody sMadeB 12) := ⟨_, _, _, _, _, _, _, _, _, _, _, _, _, _, _, _, _, _, _, rfl, rfl⟩
theorem rowB12 : IsRow "BadHistory" (some "history") (inBody sMadeB 13) := ⟨_, _, _, _, _, _, _, _, _, _, _, _, _, _, _, _, _, _, _, rfl, rfl⟩
theorem rowB13 : IsRow "BadOwners" (some "owners") (inBody sMadeB 14) := ⟨_, _, _, _, _, _, _, _, _, _, _, _, _, _, _, _, _, _, _, rfl, rfl⟩
theorem rowB14 : IsRow "BadHeirs" (some "heirs") (inBody sMadeB 15) := ⟨_, _, _, _, _, _, _, _, _, _, _, _, _, _, _, _, _, _, _, rfl, rfl⟩
theorem rowB15 : IsRow "BadTurns" (some "index") (inBody sMadeB 16) := ⟨_, _, _, _, _, _, _, _, _, _, _, _, _, _, _, _, _, _, _, rfl, rfl⟩
theorem rowB16 : IsRow "NoHouse" (some "house") (inBody sMadeB 17) := ⟨_, _, _, _, _, _, _, _, _, _, _, _, _, _, _, _, _, _, _, rfl, rfl⟩
theorem rowB17 : IsRow "BadHouses" (some "index") (inBody sMadeB 18) := ⟨_, _, _, _, _, _, _, _, _, _, _, _, _, _, _, _, _, _, _, rfl, rfl⟩
theorem rowB18 : IsRow "NotARow" (none) (inBody sMadeB 19) := ⟨_, _, _, _, _, _, _, _, _, _, _, _, _, rfl, rfl⟩
theorem rowB19 : IsRow "BadSeen" (some "index") (inBody sMadeB 20) := ⟨_, _, _, _, _, _, _, _, _, _, _, _, _, _, _, _, _, _, _, rfl, rfl⟩
theorem rowB20 : IsRow "BadHistories" (some "index") (inBody sMadeB 21) := ⟨_, _, _, _, _, _, _, _, _, _, _, _, _, _, _, _, _, _, _, rfl, rfl⟩
theorem rowB21 : IsRow "Crowded" (some "address") (inBody sMadeB 22) := ⟨_, _, _, _, _, _, _, _, _, _, _, _, _, _, _, _, _, _, _, rfl, rfl⟩
theorem rowB22 : IsRow "BadFunction" (some "thing") (inBody sMadeB 23) := ⟨_, _, _, _, _, _, _, _, _, _, _, _, _, _, _, _, _, _, _, rfl, rfl⟩
theorem rowB23 : IsRow "CanBeKept" (none) (inBody sMadeB 24) := ⟨_, _, _, _, _, _, _, _, _, _, _, _, _, rfl, rfl⟩
theorem rowB24 : IsRow "BadWriter" (some "writer") (inBody sMadeB 25) := ⟨_, _, _, _, _, _, _, _, _, _, _, _, _, _, _, _, _, _, _, rfl, rfl⟩
theorem rowB25 : IsRow "BadSlate" (some "thing") (inBody sMadeB 26) := ⟨_, _, _, _, _, _, _, _, _, _, _, _, _, _, _, _, _, _, _, rfl, rfl⟩
theorem rowB26 : IsRow "BadTruth" (some "thing") (inBody sMadeB 27) := ⟨_, _, _, _, _, _, _, _, _, _, _, _, _, _, _, _, _, _, _, rfl, rfl⟩
theorem rowB27 : IsRow "BadLooks" (some "index") (inBody sMadeB 28) := ⟨_, _, _, _, _, _, _, _, _, _, _, _, _, _, _, _, _, _, _, rfl, rfl⟩
theorem rowB28 : IsRow "BadOrder" (some "order") (inBody sMadeB 29) := ⟨_, _, _, _, _, _, _, _, _, _, _, _, _, _, _, _, _, _, _, rfl, rfl⟩
theorem rowB29 : IsRow "IsWatched" (some "promise") (inBody sMadeB 30) := ⟨_, _, _, _, _, _, _, _, _, _, _, _, _, _, _, _, _, _, _, rfl, rfl⟩
theorem rowB30 : IsRow "NotWatched" (some "promise") (inBody sMadeB 31) := ⟨_, _, _, _, _, _, _, _, _, _, _, _, _, _, _, _, _, _, _, rfl, rfl⟩
theorem rowB31 : IsRow "Broken" (some "promise") (inBody sMadeB 32) := ⟨_, _, _, _, _, _, _, _, _, _, _, _, _, _, _, _, _, _, _, rfl, rfl⟩
theorem rowB32 : IsRow "WouldBreak" (some "promise") (inBody sMadeB 33) := ⟨_, _, _, _, _, _, _, _, _, _, _, _, _, _, _, _, _, _, _, rfl, rfl⟩
theorem rowB33 : IsRow "BadNumber" (some "number") (inBody sMadeB 34) := ⟨_, _, _, _, _, _, _, _, _, _, _, _, _, _, _, _, _, _, _, rfl, rfl⟩
theorem rowB34 : IsRow "BadThing" (some "thing") (inBody sMadeB 35) := ⟨_, _, _, _, _, _, _, _, _, _, _, _, _, _, _, _, _, _, _, rfl, rfl⟩
theorem rowB35 : IsRow "BadText" (some "line") (inBody sMadeB 36) := ⟨_, _, _, _, _, _, _, _, _, _, _, _, _, _, _, _, _, _, _, rfl, rfl⟩
theorem areRowsB : AreRows rowsB stmsB := .cons rowB0 (.cons rowB1 (.cons rowB2 (.cons rowB3 (.cons rowB4 (.cons rowB5 (.cons rowB6 (.cons rowB7 (.cons rowB8 (.cons rowB9 (.cons rowB10 (.cons rowB11 (.cons rowB12 (.cons rowB13 (.cons rowB14 (.cons rowB15 (.cons rowB16 (.cons rowB17 (.cons rowB18 (.cons rowB19 (.cons rowB20 (.cons rowB21 (.cons rowB22 (.cons rowB23 (.cons rowB24 (.cons rowB25 (.cons rowB26 (.cons rowB27 (.cons rowB28 (.cons rowB29 (.cons rowB30 (.cons rowB31 (.cons rowB32 (.cons rowB33 (.cons rowB34 (.cons rowB35 (.nil))))))))))))))))))))))))))))))))))))
theorem bodyB : ∃ p1 p2 p3 p4 p5, defBody sMadeB = .Assign [.Name "_law_found" p1] (.List [] p2) p3 :: (stmsB ++ [.Return (some (.Name "_law_found" p4)) p5]) := ⟨_, _, _, _, _, rfl⟩
def kstmA : List Stmt := [inBody sKinA 1, inBody sKinA 2, inBody sKinA 3, inBody sKinA 4, inBody sKinA 5, inBody sKinA 6, inBody sKinA 7, inBody sKinA 8, inBody sKinA 9, inBody sKinA 10, inBody sKinA 11, inBody sKinA 12, inBody sKinA 13, inBody sKinA 14, inBody sKinA 15, inBody sKinA 16]
theorem kinA0 : IsKin ["BadAddresses", "BadMost"] (inBody sKinA 1) := ⟨_, _, _, _, _, _, rfl, .cons ⟨_, _, _, _, rfl⟩ (.cons ⟨_, _, _, _, rfl⟩ (.nil))⟩
theorem kinA1 : IsKin ["BadLand", "BadDeeds"] (inBody sKinA 2) := ⟨_, _, _, _, _, _, rfl, .cons ⟨_, _, _, _, rfl⟩ (.cons ⟨_, _, _, _, rfl⟩ (.nil))⟩
theorem kinA2 : IsKin ["BadMoment", "NoAddress"] (inBody sKinA 3) := ⟨_, _, _, _, _, _, rfl, .cons ⟨_, _, _, _, rfl⟩ (.cons ⟨_, _, _, _, rfl⟩ (.nil))⟩
theorem kinA3 : IsKin ["BadPiece", "BadIndex"] (inBody sKinA 4) := ⟨_, _, _, _, _, _, rfl, .cons ⟨_, _, _, _, rfl⟩ (.cons ⟨_, _, _, _, rfl⟩ (.nil))⟩
theorem kinA4 : IsKin ["CannotBeDone", "BadNumbers"] (inBody sKinA 5) := ⟨_, _, _, _, _, _, rfl, .cons ⟨_, _, _, _, rfl⟩ (.cons ⟨_, _, _, _, rfl⟩ (.nil))⟩
theorem kinA5 : IsKin ["NotMade", "BadTimes"] (inBody sKinA 6) := ⟨_, _, _, _, _, _, rfl, .cons ⟨_, _, _, _, rfl⟩ (.cons ⟨_, _, _, _, rfl⟩ (.nil))⟩
theorem kinA6 : IsKin ["BadLife", "BadHolder"] (inBody sKinA 7) := ⟨_, _, _, _, _, _, rfl, .cons ⟨_, _, _, _, rfl⟩ (.cons ⟨_, _, _, _, rfl⟩ (.nil))⟩
theorem kinA7 : IsKin ["BadPolicy", "BadDue"] (inBody sKinA 8) := ⟨_, _, _, _, _, _, rfl, .cons ⟨_, _, _, _, rfl⟩ (.cons ⟨_, _, _, _, rfl⟩ (.nil))⟩
theorem kinA8 : IsKin ["BadPromise", "BadWidth"] (inBody sKinA 9) := ⟨_, _, _, _, _, _, rfl, .cons ⟨_, _, _, _, rfl⟩ (.cons ⟨_, _, _, _, rfl⟩ (.nil))⟩
theorem kinA9 : IsKin ["BadTable", "BadView"] (inBody sKinA 10) := ⟨_, _, _, _, _, _, rfl, .cons ⟨_, _, _, _, rfl⟩ (.cons ⟨_, _, _, _, rfl⟩ (.nil))⟩
theorem kinA10 : IsKin ["NoWord", "BadMarks"] (inBody sKinA 11) := ⟨_, _, _, _, _, _, rfl, .cons ⟨_, _, _, _, rfl⟩ (.cons ⟨_, _, _, _, rfl⟩ (.nil))⟩
theorem kinA11 : IsKin ["BadTurn", "BadState"] (inBody sKinA 12) := ⟨_, _, _, _, _, _, rfl, .cons ⟨_, _, _, _, rfl⟩ (.cons ⟨_, _, _, _, rfl⟩ (.nil))⟩
theorem kinA12 : IsKin ["UnlikeLands", "BadWord"] (inBody sKinA 13) := ⟨_, _, _, _, _, _, rfl, .cons ⟨_, _, _, _, rfl⟩ (.cons ⟨_, _, _, _, rfl⟩ (.nil))⟩
theorem kinA13 : IsKin ["BadDiscipline", "BadWithin"] (inBody sKinA 14) := ⟨_, _, _, _, _, _, rfl, .cons ⟨_, _, _, _, rfl⟩ (.cons ⟨_, _, _, _, rfl⟩ (.nil))⟩
theorem kinA14 : IsKin ["BadAsks", "BadWish"] (inBody sKinA 15) := ⟨_, _, _, _, _, _, rfl, .cons ⟨_, _, _, _, rfl⟩ (.cons ⟨_, _, _, _, rfl⟩ (.nil))⟩
theorem kinA15 : IsKin ["BadPrices"] (inBody sKinA 16) := ⟨_, _, _, _, _, _, rfl, .cons ⟨_, _, _, _, rfl⟩ (.nil)⟩
theorem areKinsA : Kins kinsA kstmA := .cons kinA0 (.cons kinA1 (.cons kinA2 (.cons kinA3 (.cons kinA4 (.cons kinA5 (.cons kinA6 (.cons kinA7 (.cons kinA8 (.cons kinA9 (.cons kinA10 (.cons kinA11 (.cons kinA12 (.cons kinA13 (.cons kinA14 (.cons kinA15 (.nil))))))))))))))))
theorem kbodyA : ∃ p1 p2 p3 p4 p5, defBody sKinA = .Assign [.Name "_law_found" p1] (.List [] p2) p3 :: (kstmA ++ [.Return (some (.Name "_law_found" p4)) p5]) := ⟨_, _, _, _, _, rfl⟩
def kstmB : List Stmt := [inBody sKinB 1, inBody sKinB 2, inBody sKinB 3, inBody sKinB 4, inBody sKinB 5, inBody sKinB 6, inBody sKinB 7, inBody sKinB 8, inBody sKinB 9, inBody sKinB 10, inBody sKinB 11, inBody sKinB 12, inBody sKinB 13, inBody sKinB 14, inBody sKinB 15, inBody sKinB 16, inBody sKinB 17, inBody sKinB 18]
theorem kinB0 : IsKin ["BadBook", "BadDay"] (inBody sKinB 1) := ⟨_, _, _, _, _, _, rfl, .cons ⟨_, _, _, _, rfl⟩ (.cons ⟨_, _, _, _, rfl⟩ (.nil))⟩
theorem kinB1 : IsKin ["BadPace", "BadRest"] (inBody sKinB 2) := ⟨_, _, _, _, _, _, rfl, .cons ⟨_, _, _, _, rfl⟩ (.cons ⟨_, _, _, _, rfl⟩ (.nil))⟩
theorem kinB2 : IsKin ["BadMoves", "BadIdle"] (inBody sKinB 3) := ⟨_, _, _, _, _, _, rfl, .cons ⟨_, _, _, _, rfl⟩ (.cons ⟨_, _, _, _, rfl⟩ (.nil))⟩
theorem kinB3 : IsKin ["BadLetters", "BadPostage"] (inBody sKinB 4) := ⟨_, _, _, _, _, _, rfl, .cons ⟨_, _, _, _, rfl⟩ (.cons ⟨_, _, _, _, rfl⟩ (.nil))⟩
theorem kinB4 : IsKin ["BadStamp", "BadRent"] (inBody sKinB 5) := ⟨_, _, _, _, _, _, rfl, .cons ⟨_, _, _, _, rfl⟩ (.cons ⟨_, _, _, _, rfl⟩ (.nil))⟩
theorem kinB5 : IsKin ["BadStays", "BadMany"] (inBody sKinB 6) := ⟨_, _, _, _, _, _, rfl, .cons ⟨_, _, _, _, rfl⟩ (.cons ⟨_, _, _, _, rfl⟩ (.nil))⟩
theorem kinB6 : IsKin ["BadHistory", "BadOwners"] (inBody sKinB 7) := ⟨_, _, _, _, _, _, rfl, .cons ⟨_, _, _, _, rfl⟩ (.cons ⟨_, _, _, _, rfl⟩ (.nil))⟩
theorem kinB7 : IsKin ["BadHeirs", "BadTurns"] (inBody sKinB 8) := ⟨_, _, _, _, _, _, rfl, .cons ⟨_, _, _, _, rfl⟩ (.cons ⟨_, _, _, _, rfl⟩ (.nil))⟩
theorem kinB8 : IsKin ["NoHouse", "BadHouses"] (inBody sKinB 9) := ⟨_, _, _, _, _, _, rfl, .cons ⟨_, _, _, _, rfl⟩ (.cons ⟨_, _, _, _, rfl⟩ (.nil))⟩
theorem kinB9 : IsKin ["NotARow", "BadSeen"] (inBody sKinB 10) := ⟨_, _, _, _, _, _, rfl, .cons ⟨_, _, _, _, rfl⟩ (.cons ⟨_, _, _, _, rfl⟩ (.nil))⟩
theorem kinB10 : IsKin ["BadHistories", "Crowded"] (inBody sKinB 11) := ⟨_, _, _, _, _, _, rfl, .cons ⟨_, _, _, _, rfl⟩ (.cons ⟨_, _, _, _, rfl⟩ (.nil))⟩
theorem kinB11 : IsKin ["BadFunction", "CanBeKept"] (inBody sKinB 12) := ⟨_, _, _, _, _, _, rfl, .cons ⟨_, _, _, _, rfl⟩ (.cons ⟨_, _, _, _, rfl⟩ (.nil))⟩
theorem kinB12 : IsKin ["BadWriter", "BadSlate"] (inBody sKinB 13) := ⟨_, _, _, _, _, _, rfl, .cons ⟨_, _, _, _, rfl⟩ (.cons ⟨_, _, _, _, rfl⟩ (.nil))⟩
theorem kinB13 : IsKin ["BadTruth", "BadLooks"] (inBody sKinB 14) := ⟨_, _, _, _, _, _, rfl, .cons ⟨_, _, _, _, rfl⟩ (.cons ⟨_, _, _, _, rfl⟩ (.nil))⟩
theorem kinB14 : IsKin ["BadOrder", "IsWatched"] (inBody sKinB 15) := ⟨_, _, _, _, _, _, rfl, .cons ⟨_, _, _, _, rfl⟩ (.cons ⟨_, _, _, _, rfl⟩ (.nil))⟩
theorem kinB15 : IsKin ["NotWatched", "Broken"] (inBody sKinB 16) := ⟨_, _, _, _, _, _, rfl, .cons ⟨_, _, _, _, rfl⟩ (.cons ⟨_, _, _, _, rfl⟩ (.nil))⟩
theorem kinB16 : IsKin ["WouldBreak", "BadNumber"] (inBody sKinB 17) := ⟨_, _, _, _, _, _, rfl, .cons ⟨_, _, _, _, rfl⟩ (.cons ⟨_, _, _, _, rfl⟩ (.nil))⟩
theorem kinB17 : IsKin ["BadThing", "BadText"] (inBody sKinB 18) := ⟨_, _, _, _, _, _, rfl, .cons ⟨_, _, _, _, rfl⟩ (.cons ⟨_, _, _, _, rfl⟩ (.nil))⟩
theorem areKinsB : Kins kinsB kstmB := .cons kinB0 (.cons kinB1 (.cons kinB2 (.cons kinB3 (.cons kinB4 (.cons kinB5 (.cons kinB6 (.cons kinB7 (.cons kinB8 (.cons kinB9 (.cons kinB10 (.cons kinB11 (.cons kinB12 (.cons kinB13 (.cons kinB14 (.cons kinB15 (.cons kinB16 (.cons kinB17 (.nil))))))))))))))))))
theorem kbodyB : ∃ p1 p2 p3 p4 p5, defBody sKinB = .Assign [.Name "_law_found" p1] (.List [] p2) p3 :: (kstmB ++ [.Return (some (.Name "_law_found" p4)) p5]) := ⟨_, _, _, _, _, rfl⟩
end OE
namespace OE
open PySem PySem.Spec PyProof.Rows L2 LamX
/-! ### whether an error is of its own class alone -/
structure TxtOwn (K : PySem.W.Frag) (mg : Str → Option Value) (fA fB cE : Addr) : Prop where
  isi : mg "isinstance" = none
  ve : mg "ValueError" = none
  le : mg "LookupError" = none
  rg : mg "range" = none
  gE : mg "AddressError" = some (.ref cE)
  gA : mg "_law_kinds_a" = some (.ref fA)
  gB : mg "_law_kinds_b" = some (.ref fB)
  kA : PySem.W.keepIn K (.ref fA) = true
  kB : PySem.W.keepIn K (.ref fB) = true
  ak : AskedK K
/-- what is_own asks of the error's class -/
structure OwnK (K : PySem.W.Frag) (cE C : Addr) (dsA dsB : List Addr) (n : Nat) : Prop where
  asked : Asked K C
  kin : KinK K C (dsA ++ dsB)
  nd : (dsA ++ dsB).Nodup
  at_ : (dsA ++ dsB)[n]? = some C
  len : (dsA ++ dsB).length = 67
  base : PySem.W.kitOne K (.ref C) (.ref cE) = some true
  ve : PySem.W.kitOne K (.ref C) (.type "ValueError") = some true
  le : PySem.W.kitOne K (.ref C) (.type "LookupError") = some false
def spOwn (K : PySem.W.Frag) (cE : Addr) (dsA dsB : List Addr) : Sp := fun vs H Q _ => ∃ a C n, vs = [.ref a, .int (n : Nat)] ∧ ErrAt H a C ∧ OwnK K cE C dsA dsB n ∧ ∀ H', Same H H' → Q (.bl true) H'
theorem scOwn : FnScope ["_law_e", "_law_at", "_law_k"] ["_law_e", "_law_at"] (defScope sOwn) := ⟨rfl, rfl, rfl, by decide +kernel, rfl, by decide +kernel, by decide +kernel⟩
theorem same_err {H H' : Hp} {a C : Addr} (h : ErrAt H a C) (e : Same H H') : ErrAt H' a C := h.ext (Same.extN e)
theorem nodup_inj {l : List Addr} (nd : l.Nodup) {i j : Nat} (hi : i < l.length) (hj : j < l.length) (e : l[i] = l[j]) : i = j := by
  have p := List.pairwise_iff_getElem.mp nd
  rcases Nat.lt_trichotomy i j with z | z | z
  · exact absurd e (p i j hi hj z)
  · exact z
  · exact absurd e.symm (p j i hj hi z)
/-- the answers are the comparison's -/
theorem ans_eq {ds : List Addr} {C : Addr} {n : Nat} (nd : ds.Nodup) (h : ds[n]? = some C) : ans C ds = (List.range ds.length).map fun k => .bl (decide ((k : Int) = (n : Nat))) := by
  apply List.ext_getElem
  · simp [ans]
  · intro i h1 h2
    have hi : i < ds.length := by simpa [ans] using h1
    obtain ⟨hn, e⟩ := List.getElem?_eq_some_iff.mp h
    simp only [ans, List.getElem_map, List.getElem_range]
    congr 1
    apply decide_eq_decide.mpr
    constructor
    · intro z
      have := nodup_inj nd hn hi (e.trans z)
      omega
    · intro z
      have z' : n = i := by omega
      subst z'
      exact e.symm
theorem paired_refl {K : PySem.W.Frag} {H : Hp} : ∀ (l : List V), (∀ x ∈ l, flatB x = true) → Paired (EqV K H 1) l l
  | [], _ => .nil
  | x :: l, h => .cons (.inl ⟨rfl, h x (List.mem_cons_self ..)⟩) (paired_refl l fun y m => h y (List.mem_cons_of_mem _ m))
section
variable {P : Program} {w : World} {K : PySem.W.Frag} {mg : Str → Option Value} {base : Heap} {dsA dsB : List Addr}
theorem ok_own {f fA fB cE : Addr} {fd fdA fdB : FuncData} (F : Fun K "_law_is_own" "_law_is_own" sOwn f fd) (T : TxtOwn K mg fA fB cE) (GA : FnOk P w K mg base CX0 1 fA fdA ["_law_e"] (spKins K dsA)) (GB : FnOk P w K mg base CX0 1 fB fdB ["_law_e"] (spKins K dsB))
    (bA : Binds K fdA ["_law_e"] []) (bB : Binds K fdB ["_law_e"] []) : FnOk P w K mg base CX0 2 f fd ["_law_e", "_law_at"] (spOwn K cE dsA dsB) := by
  refine F.ok scOwn (fun vs H Q E h => ?_) (fun cdv A outer s H vs Q E hr h => ?_)
  · obtain ⟨a, C, n, rfl, _⟩ := h
    rfl
  · obtain ⟨a, C, n, rfl, hE, O, q⟩ := h
    have isi := fun (X : Cx) (h1 : X.K = K) => call_isV (X := X) (h1 ▸ T.ak)
    have hu : A.units + 3 + 64 < cLine := by
      have := hr.un
      have e : (A.deeper (envOfC "_law_is_own" (defScope sOwn) s.heap.objs.size f cdv)).units = A.units + 3 := rfl
      omega
    refine ⟨_, pss_cons (ps_if (PW.pt (pw_or (pt_not (pt_val (pe_callB (call_isV T.ak) (by rfl) T.isi bootIsi (pa_cons (pv 0) (pa_cons (pe_glob (v := .ref cE) (by rfl) T.gE rfl) pa_nil)))))
        (pw_or (pt_not (pt_val (pe_callB (call_isV T.ak) (by rfl) T.isi bootIsi (pa_cons (pv 0) (pa_cons (pe_bltn (v := .ty "ValueError") (u := .type "ValueError") (by rfl) T.ve (by decide +kernel) rfl) pa_nil)))))
          (pw_or1 (pt_val (pe_callB (call_isV T.ak) (by rfl) T.isi bootIsi (pa_cons (pv 0) (pa_cons (pe_bltn (v := .ty "LookupError") (u := .type "LookupError") (by rfl) T.le (by decide +kernel) rfl) pa_nil))))))))
        (pss_one (ps_ret pe_bl)) pss_nil)
      (pss_one (ps_ret (pe_cmpR (op_eqV hu) (pe_op op_cat (pe_call GA (hr.mono (by decide)) (by rfl) T.gA T.kA bA .nil pass0 (pa_cons (pv 0) pa_nil)) (pe_call GB (hr.mono (by decide)) (by rfl) T.gB T.kB bB .nil pass0 (pa_cons (pv 0) pa_nil)))
        (pe_lc (own := [("_law_k", 2)]) (g := gName 2) (tt := tYes) rfl scOwn.nd (pi_range1 (by rfl) T.rg (pa_cons pe_int pa_nil)) (blkOk_by (N := ["_law_e", "_law_at", "_law_k"]) (sc := defScope sOwn) (by decide +kernel))
          (fun _ _ _ _ _ => pg_name (i := 2) scOwn.nd rfl (Or.inl rfl)) (fun _ _ _ _ _ => pts_nil) (fun _ _ _ _ _ => pe_cmpR op_eq (pv 2) (pv 1) (nomark _))) (nomark _)))), ?_⟩
    refine ⟨_, rfl, a, C, .ref cE, .ref cE, true, rfl, hE, O.asked, .own _, O.base, true, rfl, ?_⟩
    refine iteF ⟨_, rfl, a, C, .ty "ValueError", .type "ValueError", true, rfl, hE, O.asked, .ty _, O.ve, true, rfl, ?_⟩
    refine iteF ⟨_, rfl, a, C, .ty "LookupError", .type "LookupError", false, rfl, hE, O.asked, .ty _, O.le, false, rfl, ?_⟩
    refine iteF ?_
    refine ⟨_, rfl, a, C, rfl, hE, O.asked, fun D m => O.kin D (List.mem_append_left _ m), fun H1 pA e1 hA => ?_⟩
    refine ⟨_, rfl, a, C, rfl, same_err hE e1, O.asked, fun D m => O.kin D (List.mem_append_right _ m), fun H2 pB e2 hB => ?_⟩
    have la : (ans C dsA).length + (ans C dsB).length = 67 := by
      have z := O.len
      rw [List.length_append] at z
      unfold ans
      rw [List.length_map, List.length_map]
      exact z
    refine ⟨pA, pB, ans C dsA, ans C dsB, rfl, rfl, e2 _ _ hA, hB, by rw [sizeLine_eq]; omega, fun p np => ?_⟩
    have eC : ans C dsA ++ ans C dsB = (List.range 67).map fun k : Nat => V.bl (decide ((k : Int) = (n : Nat))) := by
      have z := ans_eq O.nd O.at_
      rw [O.len] at z
      rw [← z]
      unfold ans
      rw [List.map_append]
    refine ⟨67, rfl, by decide, by decide, fun D nD => ?_⟩
    have pD : p ≠ D := ne_of_none (o := .lst (ans C dsA ++ ans C dsB)) upd_same nD
    refine lc_range (n := 67) (fun i G => (∀ b o, b ≠ D → (upd H2 p (.lst (ans C dsA ++ ans C dsB))) b = some o → G b = some o) ∧ G D = some (.lst ((List.range i).map fun k : Nat => V.bl (decide ((k : Int) = (n : Nat)))))) ⟨fun b o nb e => ?_, upd_same⟩ (fun i G hi ⟨k, hD⟩ => ?_) (fun G ⟨k, hD⟩ => ?_)
    · rw [upd_ne nb]
      exact e
    · refine ⟨rfl, ?_⟩
      dsimp only [tYes]
      rw [if_pos rfl]
      refine ⟨_, rfl, _, rfl, rfl, _, hD, ?_, fun b o nb e => ?_, ?_⟩
      · rw [List.length_map, List.length_range, sizeLine_eq]
        omega
      · rw [upd_ne nb]
        exact k b o nb e
      · rw [upd_same, List.range_succ, List.map_append]
        congr 4
        simp
    · refine ⟨1, by decide, .inl ⟨p, D, _, _, rfl, rfl, .inl (.inl (k p _ pD upd_same)), .inl (.inl hD), ?_⟩, q G fun b o e => ?_⟩
      · rw [eC]
        exact paired_refl _ fun x m => by
          obtain ⟨j, _, rfl⟩ := List.mem_map.mp m
          rfl
      · have e3 := e2 _ _ (e1 _ _ e)
        have bp : b ≠ p := ne_of_none e3 np
        have bD : b ≠ D := ne_of_none (H := upd H2 p (.lst (ans C dsA ++ ans C dsB))) (o := o) (by rw [upd_ne bp]; exact e3) nD
        exact k b o bD (by rw [upd_ne bp]; exact e3)
end
end OE
namespace OE
open PySem PySem.Spec PyProof.Rows L2 LamX
/-! ### what an error may keep, as data -/
mutual
inductive Thing (H : Hp) : V → PyData → Prop where
  | non : Thing H .non .none
  | bl (b : Bool) : Thing H (.bl b) (.bool b)
  | int (i : Int) : Thing H (.int i) (.int i)
  | str (x : Str) : Thing H (.str x) (.str x)
  | lst {a : Addr} {xs : List V} {ds : List PyData} : H a = some (.lst xs) → a ≠ sysModules → Things H xs ds → Thing H (.ref a) (.list ds)
  | tup {a : Addr} {xs : List V} {ds : List PyData} : H a = some (.tup xs) → Things H xs ds → Thing H (.ref a) (.tuple ds)
  | dct {a : Addr} {k : Str} {i : Int} : H a = some (.dK [(.inr k, .int i)]) → Thing H (.ref a) (.dict [(.str k, .int i)])
inductive Things (H : Hp) : List V → List PyData → Prop where
  | nil : Things H [] []
  | cons {v : V} {vs : List V} {d : PyData} {ds : List PyData} : Thing H v d → Things H vs ds → Things H (v :: vs) (d :: ds)
end
section
variable {P : Program} {w : World} {H : Hp} {h : Heap}
mutual
theorem Thing.reads (ok : HOk P w H h) : ∀ (d : PyData) (v : V) (u : Value), Thing H v d → RelV v u → ∃ as, Reads h u d as ∧ sysModules ∉ as
  | .none, _, _, t, r => by
    cases t
    cases r
    exact ⟨_, .none, by simp⟩
  | .bool b, _, _, t, r => by
    cases t
    cases r
    exact ⟨_, .bool b, by simp⟩
  | .int i, _, _, t, r => by
    cases t
    obtain ⟨tk, rfl⟩ := r
    exact ⟨_, .int i tk, by simp⟩
  | .str x, _, _, t, r => by
    cases t
    obtain ⟨tk, rfl⟩ := r
    exact ⟨_, .str x tk, by simp⟩
  | .list ds, _, _, t, r => by
    cases t with
    | @lst a xs ds e ns ts =>
      cases r
      obtain ⟨_, its, n, rv, ho⟩ := (show ObjOk P w H h a (.lst xs) from ok a _ e)
      obtain ⟨as, q, nm⟩ := Things.reads ok ds xs its ts rv
      refine ⟨a :: as, .list (vs := its.toArray) ho rfl rfl q, fun m => ?_⟩
      rcases List.mem_cons.mp m with z | z
      · exact ns z.symm
      · exact nm z
  | .tuple ds, _, _, t, r => by
    cases t with
    | @tup a xs ds e ts =>
      cases r
      obtain ⟨_, its, rv, o, ho, hc, n, hd⟩ := (show ObjOk P w H h a (.tup xs) from ok a _ e)
      obtain ⟨as, q, nm⟩ := Things.reads ok ds xs its ts rv
      exact ⟨as, .tuple (vs := its.toArray) ho hc hd q, nm⟩
  | .dict kv, _, _, t, r => by
    cases t with
    | @dct a k i e =>
      cases r
      obtain ⟨_, ns, vs, rkv, o, es, ep, ho, hx, hd, hk, hp, hn⟩ := (show ObjOk P w H h a (.dK _) from ok a _ e)
      cases rkv with
      | @cons p q _ _ r1 rt =>
        cases rt
        obtain ⟨kk, vv⟩ := q
        obtain ⟨e1, e2⟩ := r1
        have e1' : Sum.inr k = kk := e1
        subst e1'
        obtain ⟨tv, e2⟩ := (show ∃ t, vv = Value.int i t from e2)
        subst e2
        generalize hl : es.toList = l' at hp
        cases hp with
        | @cons en kv es' _ i1 i2 i3 =>
          cases i3
          obtain ⟨tk, hk2⟩ := Value.isStrOf_shape (x := k) (v := en.key) i1
          refine ⟨a :: ([] ++ []) ++ ([] ++ []), .dict ho hx.1 hd (as := [] ++ []) (bs := [] ++ []) ?_ ?_, fun m => ?_⟩
          · rw [hl]
            show ReadsAll h [en.key] [PyData.str k] ([] ++ [])
            rw [hk2]
            exact .cons (.str k tk) .nil
          · rw [hl]
            show ReadsAll h [en.val] [PyData.int i] ([] ++ [])
            rw [i2]
            exact .cons (.int i tv) .nil
          · have z : sysModules = a := by simpa using m
            rw [← z] at ns
            exact absurd ns (by decide)
theorem Things.reads (ok : HOk P w H h) : ∀ (ds : List PyData) (vs : List V) (us : List Value), Things H vs ds → Vals vs us → ∃ as, ReadsAll h us ds as ∧ sysModules ∉ as
  | [], _, _, t, r => by
    cases t
    cases r
    exact ⟨_, .nil, by simp⟩
  | d :: ds, _, _, t, r => by
    cases t with
    | cons t1 t2 =>
      cases r with
      | cons r1 r2 =>
        obtain ⟨as, q1, n1⟩ := Thing.reads ok d _ _ t1 r1
        obtain ⟨bs, q2, n2⟩ := Things.reads ok ds _ _ t2 r2
        exact ⟨_, .cons q1 q2, fun m => (List.mem_append.mp m).elim n1 n2⟩
end
end
/-- repr of such a thing, where no repr is under way -/
def rRepr : List V → Hp → VK → Prop := fun xs H Q => ∃ a d, xs = [.ref a] ∧ Thing H (.ref a) d ∧ d.showable = true ∧ d.depth ≤ 60 ∧ d.shown.length ≤ sizeLine ∧ Q (.str d.shown) H
theorem call_repr {X : Cx} (hg : X.A.guards = some []) (hu : X.A.units + 64 < cLine) : CallR X (.builtin "repr") rRepr := by
  intro pins s σ H xs us Q I r h
  obtain ⟨a, d, rfl, t, hs, hd, hz, q⟩ := h
  obtain ⟨u, rfl, rx⟩ := vals1 r
  cases rx
  obtain ⟨as, rd, nm⟩ := Thing.reads I.hok d (.ref a) (.ref a) t rfl
  exact repr_of_reads' rd hs (fun _ => nm) hg (by omega) (fun _ _ e => e) (fun h' u tk k => ⟨.str d.shown, H, I.kept (t' := tk) k, ⟨_, rfl⟩, q⟩) hz
end OE
namespace OE
open PySem PySem.Spec PyProof.Rows L2 LamX
/-! ### a def of the law called where the guards are known -/
/-- what is told of a def's body, at one around -/
def BodyAt (X : Cx) (k : Nat) (f : Addr) (x : Str) (st : Stmt) (ps : List Str) (sp : List V → Hp → VK → Prop) : Prop := ∀ (cdv : Value) (s : Shared) (H : Hp) (vs : List V) (Q : VK), Room k (X.A.deeper (envOfC x (defScope st) s.heap.objs.size f cdv)) → sp vs H Q →
  vs.length = ps.length ∧ ∃ N, FnScope N ps (defScope st) ∧ ∃ t, PSs (cxOf CX0 X.prog X.w X.K X.mg X.base N x (defScope st) f cdv X.A X.stack s H (fun _ _ _ => False)) (defBody st) t ∧ t { nx := fun _ H' => Q .non H', rt := Q } (L2.start N vs) H
section
variable {X : Cx} {k : Nat} {f : Addr} {x : Str} {st : Stmt} {fd : FuncData} {ps : List Str} {sp : List V → Hp → VK → Prop} {e : Expr} {es : List Expr} {t : TA} {p pos : Pos}
theorem pe_at (F : Fun X.K x x st f fd) (B : BodyAt X k f x st ps sp) (hps : ∃ N, FnScope N ps (defScope st)) (hr : Room (k + 1) X.A) (hg : Gl X x) (hm : X.mg x = some (.ref f)) (hb : L2.Binds X.K fd ps []) (ha : PA X (e :: es) t)
    (hdb : (x == ("__debug__" : Str)) = false := by decide) (hs : starEach (e :: es) X.env = (false, eval e X.env) :: starEach es X.env := by rfl) (hpl : (backTo pos (starEach es X.env)).any (·.1) = false := by rfl) :
    PE X (.Call (.Name x p) (e :: es) [] pos) (fun σ H Q => t σ H fun vs H1 => sp vs H1 Q) := by
  refine ⟨fun pins s σ H Q I h => wpAny_Call_Name_kw (ld_glob I hg hm ?_ hdb)⟩
  refine PySem.W.callWith_K (h₀ := X.base) I.ok.mod.kin F.kp (thn (ha.run pos pins s σ H _ I h) fun us s1 ⟨vs, H1, I1, r1, q1⟩ => ⟨I1.kIn, ?_⟩) hs hpl
  obtain ⟨oc, od, kV, doc, pm, an, cdv, ct, osl, rfl, lk, hcd⟩ := F.ex
  show wpAny _ _ (call (.ref f) us) _ _ _
  have hroom : ∀ z, Room k (X.A.deeper (envOfC x (defScope st) s1.heap.objs.size f z)) := fun z => hr.deeper _
  obtain ⟨hl, N, S, tt, ht, hq⟩ := B cdv s1 H1 vs Q (hroom _) q1
  have hu : us.length = ps.length := by rw [← r1.length]; exact hl
  have bd : BindsTo s1 (PySem.W.fnOf x x (defArgs st) (defBody st) (defScope st) .none kV doc pm an cdv ct) ⟨us, []⟩ (ps.zip us) := by
    have z := hb s1 us I1.kIn (by rw [List.append_nil]; exact hu)
    rw [List.append_nil] at z
    exact z
  refine wpAny_call (codeAny_mono (run_ofS (Q := Q) lk hcd S hr I1.env0 bd r1 hl fun _ => ⟨tt, ht, hq⟩) fun r s' z => ?_)
  cases r with
  | error e => exact (show False from z).elim
  | ok fl =>
    cases fl with
    | ret u => exact I1.after z
    | next => exact False.elim z
    | brk => exact False.elim z
    | cont => exact False.elim z
end
end OE
namespace OE
open PySem PySem.Spec PyProof.Rows L2 LamX
/-! ### whether what is kept is what is due -/
structure ShownD (ds : List PyData) : Prop where
  sh : (PyData.list ds).showable = true
  dp : (PyData.list ds).depth ≤ 60
  sz : (PyData.list ds).shown.length ≤ sizeLine
def spSame : List V → Hp → VK → Prop := fun vs H Q => ∃ a b ys ds, vs = [.ref a, .ref b] ∧ H a = some (.lst ys) ∧ H b = some (.lst ys) ∧ a ≠ sysModules ∧ b ≠ sysModules ∧ Things H ys ds ∧ ShownD ds ∧ Q (.bl true) H
theorem scSame : FnScope ["_law_found", "_law_due"] ["_law_found", "_law_due"] (defScope sSame) := ⟨rfl, rfl, rfl, by decide +kernel, rfl, by decide +kernel, by decide +kernel⟩
theorem bootRepr : bootBuiltins "repr" = some (.builtin "repr") := by decide +kernel
theorem thing_eq {K : PySem.W.Frag} {H : Hp} {v : V} {d : PyData} (t : Thing H v d) : EqV K H 1 v v := by
  cases t with
  | non => exact .inl ⟨rfl, rfl⟩
  | bl b => exact .inl ⟨rfl, rfl⟩
  | int i => exact .inl ⟨rfl, rfl⟩
  | str x => exact .inl ⟨rfl, rfl⟩
  | lst _ _ _ => exact .inr (.inl ⟨_, rfl, rfl⟩)
  | tup _ _ => exact .inr (.inl ⟨_, rfl, rfl⟩)
  | dct _ => exact .inr (.inl ⟨_, rfl, rfl⟩)
theorem things_eq {K : PySem.W.Frag} {H : Hp} : ∀ {ys : List V} {ds : List PyData}, Things H ys ds → Paired (EqV K H 1) ys ys
  | [], _, _ => .nil
  | _ :: _, _, .cons t ts => .cons (thing_eq t) (things_eq ts)
theorem same_at {X : Cx} {k : Nat} {f : Addr} (hg : X.A.guards = some []) (hm : X.mg "repr" = none) : BodyAt X k f "_law_same" sSame ["_law_found", "_law_due"] spSame := by
  intro cdv s H vs Q hr h
  obtain ⟨a, b, ys, ds, rfl, ha, hb, na, nb, ts, S, q⟩ := h
  refine ⟨rfl, _, scSame, ?_⟩
  have hu := hr.un
  have hg' : (cxOf CX0 X.prog X.w X.K X.mg X.base ["_law_found", "_law_due"] "_law_same" (defScope sSame) f cdv X.A X.stack s H (fun _ _ _ => False)).A.guards = some [] := hg
  have hu' : (cxOf CX0 X.prog X.w X.K X.mg X.base ["_law_found", "_law_due"] "_law_same" (defScope sSame) f cdv X.A X.stack s H (fun _ _ _ => False)).A.units + 64 < cLine := by
    show (X.A.deeper (envOfC "_law_same" (defScope sSame) s.heap.objs.size f cdv)).units + 64 < cLine
    omega
  refine ⟨_, pss_one (ps_ret (pe_and (pe_cmpR op_eq (pe_callB (call_repr hg' hu') (by rfl) hm bootRepr (pa_cons (pv 0) pa_nil)) (pe_callB (call_repr hg' hu') (by rfl) hm bootRepr (pa_cons (pv 1) pa_nil)) (nomark _))
    (pe_one (pe_cmpR (op_eqV hu') (pv 0) (pv 1) (nomark _))))), ?_⟩
  refine ⟨_, rfl, a, .list ds, rfl, .lst ha na ts, S.sh, S.dp, S.sz, ?_⟩
  refine ⟨_, rfl, b, .list ds, rfl, .lst hb nb ts, S.sh, S.dp, S.sz, ?_⟩
  refine ⟨rfl, true, ?_, iteT ⟨_, rfl, _, rfl, 1, by decide, .inl ⟨a, b, ys, ys, rfl, rfl, .inl (.inl ha), .inl (.inl hb), things_eq ts⟩, q⟩⟩
  rw [decide_eq_true rfl]
end OE
namespace OE
open PySem PySem.Spec PyProof.Rows L2 LamX
/-! ### the field's lambda, called -/
def NoF (K : PySem.W.Frag) (C : Addr) (fo : Option Str) : Prop := match fo with
  | some f => PySem.W.findIn K (.ref C) f = some none
  | none => True
def RLam (K : PySem.W.Frag) : V → Hp → VK → Addr → Str → Arguments → Expr → Scope → Addr → Prop := fun v H Q f q ps body sc c' => sc = lSc ∧ (∃ p, ps = lA p) ∧ ∃ fo m C x, LamB fo body ∧ v = .ref m ∧ ErrOf H m C fo x ∧ Asked K C ∧ NoF K C fo ∧
  ∀ l, H l = none → l ≠ sysModules → Q (.ref l) (upd H l (.lst (dueOf fo x)))
theorem scLam : FnScope ["_law_e"] ["_law_e"] lSc := ⟨rfl, rfl, rfl, by decide, rfl, by decide +kernel, by decide +kernel⟩
theorem lam_body {X : Cx} {k : Nat} (v : V) (H : Hp) (Q : VK) (s : Shared) (f : Addr) (q : Str) (ps : Arguments) (body : Expr) (sc : Scope) (c' : Addr) (h : RLam X.K v H Q f q ps body sc c') :
    ∃ N n, FnScope N [n] sc ∧ (∀ (pm ctv : Value) (u : Value), bindArgs (PySem.W.kla_fn "<lambda>" q ps body sc [] pm (.ref c') ctv) ⟨[u], []⟩ = pure [(n, u)]) ∧
      (Room k (X.A.deeper (envOfC q sc s.heap.objs.size f (.ref c'))) → ∃ t, PE (cxOf CX0 X.prog X.w X.K X.mg X.base N q sc f (.ref c') X.A X.stack s H (fun _ _ _ => False)) body t ∧ t (L2.start N [v]) H Q) := by
  obtain ⟨rfl, ⟨p, rfl⟩, fo, m, C, x, hb, rfl, hE, hA, hF, q⟩ := h
  refine ⟨_, _, scLam, fun pm ctv u => rfl, fun hr => ?_⟩
  cases fo with
  | none =>
    obtain ⟨p3, rfl⟩ := hb
    exact ⟨_, pe_lstN pa_nil, Nat.zero_le _, fun l nl ns => q l nl ns⟩
  | some f0 =>
    obtain ⟨p1, p2, p3, rfl⟩ := hb
    obtain ⟨d, ea, ed⟩ := hE
    exact ⟨_, pe_lstN (pa_cons (pe_fv (pv 0)) pa_nil), _, rfl, m, C, d, x, rfl, hA.x, hF, ea, ed, by show 1 ≤ sizeLine; rw [sizeLine_eq]; omega, fun l nl ns => q l nl ns⟩
/-! ### the two tests of a row -/
structure LawX (X : Cx) (k : Nat) (fS : Addr) : Prop where
  n7 : X.N[7]? = some ("_law_mine" : Str)
  n8 : X.N[8]? = some ("_law_twin" : Str)
  n9 : X.N[9]? = some ("_law_field" : Str)
  n10 : X.N[10]? = some ("_law_due" : Str)
  v7 : Vis X.env.scope "_law_mine"
  v8 : Vis X.env.scope "_law_twin"
  v9 : Vis X.env.scope "_law_field"
  v10 : Vis X.env.scope "_law_due"
  gl : Gl X "_law_same"
  gS : X.mg "_law_same" = some (.ref fS)
  rp : X.mg "repr" = none
  fn : ∃ fd, Fun X.K "_law_same" "_law_same" sSame fS fd ∧ L2.Binds X.K fd ["_law_found", "_law_due"] []
  gd : X.A.guards = some []
  hr : Room (k + 2) X.A
/-- what a row's second test asks: the row stands, what is kept is data -/
structure RowV (K : PySem.W.Frag) (H : Hp) (m w l d C : Addr) (fo : Option Str) (x : V) (ds : List PyData) : Prop where
  em : ErrOf H m C fo x
  ew : ErrOf H w C fo x
  el : ∃ q ps body c', LamIn H l fo q ps body c'
  ed : H d = some (.lst (dueOf fo x))
  dn : d ≠ sysModules
  ask : Asked K C
  nof : NoF K C fo
  th : Things H (dueOf fo x) ds
  sh : ShownD ds
theorem Things.mono {H H' : Hp} (e : Same H H') : ∀ {vs : List V} {ds : List PyData}, Things H vs ds → Things H' vs ds := by
  intro vs ds t
  refine Things.rec (motive_1 := fun v d _ => Thing H' v d) (motive_2 := fun vs ds _ => Things H' vs ds) ?_ ?_ ?_ ?_ ?_ ?_ ?_ ?_ ?_ t
  · exact .non
  · exact fun b => .bl b
  · exact fun i => .int i
  · exact fun x => .str x
  · exact fun h1 h2 _ t => .lst (e _ _ h1) h2 t
  · exact fun h1 _ t => .tup (e _ _ h1) t
  · exact fun h1 => .dct (e _ _ h1)
  · exact .nil
  · exact fun _ _ a b => .cons a b
theorem RowV.ext {K : PySem.W.Frag} {H H' : Hp} {m w l d C : Addr} {fo : Option Str} {x : V} {ds : List PyData} (r : RowV K H m w l d C fo x ds) (e : Same H H') : RowV K H' m w l d C fo x ds := by
  obtain ⟨q, ps, b, c', hl⟩ := r.el
  exact ⟨r.em.ext (Same.extN e), r.ew.ext (Same.extN e), ⟨q, ps, b, c', hl.ext (Same.extN e)⟩, e _ _ r.ed, r.dn, r.ask, r.nof, Things.mono e r.th, r.sh⟩
section
variable {X : Cx} {k : Nat} {fS : Addr} {p1 p2 p3 p4 p5 q1 q2 q3 q4 q5 p6 p7 p8 p9 p10 : Pos}
/-- same(field(e), due) -/
theorem pe_one_same (M : LawX X k fS) {i : Nat} {n : Str} {pa pb pc pd pe pf : Pos} (hN : X.N[i]? = some n) (hv : Vis X.env.scope n) (hd : (n == ("__debug__" : Str)) = false) (hc : (n == ("__classdict__" : Str)) = false) :
    PE X (.Call (.Name "_law_same" pa) [.Call (.Name "_law_field" pb) [.Name n pc] [] pd, .Name "_law_due" pe] [] pf)
      (fun σ H Q => ∃ m l d C fo x ds, σ[i]? = some (some (.ref m)) ∧ σ[9]? = some (some (.ref l)) ∧ σ[10]? = some (some (.ref d)) ∧ ErrOf H m C fo x ∧ (∃ q ps body c', LamIn H l fo q ps body c') ∧ H d = some (.lst (dueOf fo x)) ∧ d ≠ sysModules ∧ Asked X.K C ∧ NoF X.K C fo ∧ Things H (dueOf fo x) ds ∧ ShownD ds ∧
        ∀ H', Same H H' → Q (.bl true) H') := by
  obtain ⟨fd, F, B⟩ := M.fn
  have z := pe_at (k := k + 1) (p := pa) (pos := pf) F (same_at (X := X) (k := k + 1) (f := fS) M.gd M.rp) ⟨_, scSame⟩ M.hr M.gl M.gS B (pa_cons (pe_lamC (k := k) (i := 9) (p := pb) (pos := pd) (M.hr.mono (by omega)) M.n9 M.v9 (pv i hN hv hd hc (pos := pc)) (R := RLam X.K) (fun v H Q s f q ps body sc c' h => lam_body v H Q s f q ps body sc c' h)) (pa_cons (pv 10 M.n10 M.v10 (pos := pe)) pa_nil))
  refine ⟨fun pins s σ H Q I h => z.run pins s σ H Q I ?_⟩
  obtain ⟨m, l, d, C, fo, x, ds, hm, hl, hd, hE, ⟨q, ps, body, c', L⟩, hdd, dn, hA, hF, ht, hsh, qq⟩ := h
  refine ⟨l, q, ps, body, lSc, c', hl, L.lam, ?_⟩
  refine ⟨_, hm, L.lam, L.code, rfl, L.par, fo, m, C, x, L.body, rfl, hE, hA, hF, fun b nb nsb => ?_⟩
  have e := same_new (o := HO.lst (dueOf fo x)) nb
  exact ⟨_, hd, b, d, dueOf fo x, ds, rfl, upd_same, e _ _ hdd, nsb, dn, Things.mono e ht, hsh, qq _ e⟩
end
end OE
namespace OE
open PySem PySem.Spec PyProof.Rows L2 LamX
section
variable {X : Cx} {k : Nat} {fS : Addr}
/-- the second test of a row: false and on -/
def IsTest2 (s : Stmt) : Prop := ∃ a1 a2 a3 a4 a5 a6 b1 b2 b3 b4 b5 b6 q1 q2 q3 q4 q5 q6, s = .If (.BoolOp .Or [.UnaryOp .Not (.Call (.Name "_law_same" a1) [.Call (.Name "_law_field" a2) [.Name "_law_mine" a3] [] a4, .Name "_law_due" a5] [] a6) q1,
  .UnaryOp .Not (.Call (.Name "_law_same" b1) [.Call (.Name "_law_field" b2) [.Name "_law_twin" b3] [] b4, .Name "_law_due" b5] [] b6) q2] q3) [.Return (some (.Constant (.bool false) 0 q4)) q5] [] q6
def tTest2 (K : PySem.W.Frag) : TS := fun D σ H => ∃ m w l d C fo x ds, σ[7]? = some (some (.ref m)) ∧ σ[8]? = some (some (.ref w)) ∧ σ[9]? = some (some (.ref l)) ∧ σ[10]? = some (some (.ref d)) ∧ RowV K H m w l d C fo x ds ∧ ∀ H', Same H H' → D.nx σ H'
theorem ps_test2 (M : LawX X k fS) {s : Stmt} (h : IsTest2 s) : PS X s (tTest2 X.K) := by
  obtain ⟨a1, a2, a3, a4, a5, a6, b1, b2, b3, b4, b5, b6, q1, q2, q3, q4, q5, q6, rfl⟩ := h
  refine ps_imp (ps_if (PW.pt (pw_or (pt_not (pt_val (pe_one_same M (i := 7) M.n7 M.v7 (by decide) (by decide)))) (pw_or1 (pt_not (pt_val (pe_one_same M (i := 8) M.n8 M.v8 (by decide) (by decide))))))) (pss_one (ps_ret pe_bl)) pss_nil) ?_
  intro D σ H ⟨m, w, l, d, C, fo, x, ds, h7, h8, h9, h10, R, q⟩
  refine ⟨m, l, d, C, fo, x, ds, h7, h9, h10, R.em, R.el, R.ed, R.dn, R.ask, R.nof, R.th, R.sh, fun H1 e1 => ⟨true, rfl, iteF ?_⟩⟩
  have R1 := R.ext e1
  refine ⟨w, l, d, C, fo, x, ds, h8, h9, h10, R1.ew, R1.el, R1.ed, R1.dn, R1.ask, R1.nof, R1.th, R1.sh, fun H2 e2 => ⟨true, rfl, iteF ?_⟩⟩
  exact q H2 (L2.Same.trans e1 e2)
/-- the first test -/
def IsTest1 (s : Stmt) : Prop := ∃ a1 a2 a3 a4 b1 b2 b3 b4 q1 q2 q3 q4 q5 q6, s = .If (.BoolOp .Or [.UnaryOp .Not (.Call (.Name "_law_is_own" a1) [.Name "_law_mine" a2, .Name "_law_at" a3] [] a4) q1,
  .UnaryOp .Not (.Call (.Name "_law_is_own" b1) [.Name "_law_twin" b2, .Name "_law_at" b3] [] b4) q2] q3) [.Return (some (.Constant (.bool false) 0 q4)) q5] [] q6
structure LawY (X : Cx) (k : Nat) (fO cE : Addr) (dsA dsB : List Addr) : Prop where
  n6 : X.N[6]? = some ("_law_at" : Str)
  v6 : Vis X.env.scope "_law_at"
  gl : Gl X "_law_is_own"
  gO : X.mg "_law_is_own" = some (.ref fO)
  kO : PySem.W.keepIn X.K (.ref fO) = true
  fn : ∃ fd, FnOk X.prog X.w X.K X.mg X.base CX0 2 fO fd ["_law_e", "_law_at"] (spOwn X.K cE dsA dsB) ∧ L2.Binds X.K fd ["_law_e", "_law_at"] []
  hr : Room 2 X.A
theorem errOf_at {H : Hp} {a C : Addr} {fo : Option Str} {x : V} (h : ErrOf H a C fo x) : ErrAt H a C := by
  cases fo with
  | none => exact .inl h
  | some f =>
    obtain ⟨d, h1, h2⟩ := h
    exact .inr ⟨d, f, x, h1, h2⟩
def tTest1 (K : PySem.W.Frag) (cE : Addr) (dsA dsB : List Addr) : TS := fun D σ H => ∃ m w n C, σ[7]? = some (some (.ref m)) ∧ σ[8]? = some (some (.ref w)) ∧ σ[6]? = some (some (.int (n : Nat))) ∧ ErrAt H m C ∧ ErrAt H w C ∧ OwnK K cE C dsA dsB n ∧ ∀ H', Same H H' → D.nx σ H'
theorem ps_test1 {fO cE : Addr} {dsA dsB : List Addr} (M : LawX X k fS) (M1 : LawY X k fO cE dsA dsB) {s : Stmt} (h : IsTest1 s) : PS X s (tTest1 X.K cE dsA dsB) := by
  obtain ⟨a1, a2, a3, a4, b1, b2, b3, b4, q1, q2, q3, q4, q5, q6, rfl⟩ := h
  obtain ⟨fd, G, B⟩ := M1.fn
  refine ps_imp (ps_if (PW.pt (pw_or (pt_not (pt_val (pe_call G M1.hr M1.gl M1.gO M1.kO B .nil pass0 (pa_cons (pv 7 M.n7 M.v7) (pa_cons (pv 6 M1.n6 M1.v6) pa_nil)))))
    (pw_or1 (pt_not (pt_val (pe_call G M1.hr M1.gl M1.gO M1.kO B .nil pass0 (pa_cons (pv 8 M.n8 M.v8) (pa_cons (pv 6 M1.n6 M1.v6) pa_nil)))))))) (pss_one (ps_ret pe_bl)) pss_nil) ?_
  intro D σ H ⟨m, w, n, C, h7, h8, h6, hm, hw, O, q⟩
  refine ⟨_, h7, _, h6, m, C, n, rfl, hm, O, fun H1 e1 => ⟨true, rfl, iteF ?_⟩⟩
  refine ⟨_, h8, _, h6, w, C, n, rfl, same_err hw e1, O, fun H2 e2 => ⟨true, rfl, iteF ?_⟩⟩
  exact q H2 (L2.Same.trans e1 e2)
end
end OE
namespace OE
open PySem PySem.Spec PyProof.Rows L2 LamX
/-! ### the classes' text -/
def IsInit (fo : Option Str) (st : Stmt) : Prop := match fo with
  | some f => ∃ p1 p2 tx a b c d e e' g h i j, defArgs st = eA f p1 p2 ∧ defBody st = [eB0 tx a b c d e e', eB1 f g h i j] ∧ defScope st = eS f ∧ (c.endLine == e.line) = true
  | none => ∃ p1 tx a b c d e e', defArgs st = eA0 p1 ∧ defBody st = [eB0 tx a b c d e e'] ∧ defScope st = eS0 ∧ (c.endLine == e.line) = true
inductive AreInits : List ClD → Prop where
  | nil : AreInits []
  | cons {r : ClD} {rs : List ClD} : IsInit r.2.1 (cInit r) → AreInits rs → AreInits (r :: rs)
theorem iniA0 : IsInit (some "index") (inClass (OA.top 2) 0) := ⟨_, _, _, _, _, _, _, _, _, _, _, _, _, rfl, rfl, rfl, rfl⟩
theorem iniA1 : IsInit (some "most") (inClass (OA.top 3) 0) := ⟨_, _, _, _, _, _, _, _, _, _, _, _, _, rfl, rfl, rfl, rfl⟩
theorem iniA2 : IsInit (some "thing") (inClass (OA.top 4) 0) := ⟨_, _, _, _, _, _, _, _, _, _, _, _, _, rfl, rfl, rfl, rfl⟩
theorem iniA3 : IsInit (some "index") (inClass (OA.top 5) 0) := ⟨_, _, _, _, _, _, _, _, _, _, _, _, _, rfl, rfl, rfl, rfl⟩
theorem iniA4 : IsInit (some "moment") (inClass (OA.top 6) 0) := ⟨_, _, _, _, _, _, _, _, _, _, _, _, _, rfl, rfl, rfl, rfl⟩
theorem iniA5 : IsInit (some "address") (inClass (OA.top 7) 0) := ⟨_, _, _, _, _, _, _, _, _, _, _, _, _, rfl, rfl, rfl, rfl⟩
theorem iniA6 : IsInit (some "piece") (inClass (OA.top 8) 0) := ⟨_, _, _, _, _, _, _, _, _, _, _, _, _, rfl, rfl, rfl, rfl⟩
theorem iniA7 : IsInit (some "index") (inClass (OA.top 9) 0) := ⟨_, _, _, _, _, _, _, _, _, _, _, _, _, rfl, rfl, rfl, rfl⟩
theorem iniA8 : IsInit (some "deed") (inClass (OA.top 10) 0) := ⟨_, _, _, _, _, _, _, _, _, _, _, _, _, rfl, rfl, rfl, rfl⟩
theorem iniA9 : IsInit (some "index") (inClass (OA.top 11) 0) := ⟨_, _, _, _, _, _, _, _, _, _, _, _, _, rfl, rfl, rfl, rfl⟩
theorem iniA10 : IsInit (some "piece") (inClass (OA.top 12) 0) := ⟨_, _, _, _, _, _, _, _, _, _, _, _, _, rfl, rfl, rfl, rfl⟩
theorem iniA11 : IsInit (some "times") (inClass (OA.top 13) 0) := ⟨_, _, _, _, _, _, _, _, _, _, _, _, _, rfl, rfl, rfl, rfl⟩
theorem iniA12 : IsInit (some "life") (inClass (OA.top 14) 0) := ⟨_, _, _, _, _, _, _, _, _, _, _, _, _, rfl, rfl, rfl, rfl⟩
theorem iniA13 : IsInit (some "holder") (inClass (OA.top 15) 0) := ⟨_, _, _, _, _, _, _, _, _, _, _, _, _, rfl, rfl, rfl, rfl⟩
theorem iniA14 : IsInit (some "policy") (inClass (OA.top 16) 0) := ⟨_, _, _, _, _, _, _, _, _, _, _, _, _, rfl, rfl, rfl, rfl⟩
theorem iniA15 : IsInit (some "due") (inClass (OA.top 17) 0) := ⟨_, _, _, _, _, _, _, _, _, _, _, _, _, rfl, rfl, rfl, rfl⟩
theorem iniA16 : IsInit (some "promise") (inClass (OA.top 18) 0) := ⟨_, _, _, _, _, _, _, _, _, _, _, _, _, rfl, rfl, rfl, rfl⟩
theorem iniA17 : IsInit (some "width") (inClass (OA.top 19) 0) := ⟨_, _, _, _, _, _, _, _, _, _, _, _, _, rfl, rfl, rfl, rfl⟩
theorem iniA18 : IsInit (some "thing") (inClass (OA.top 20) 0) := ⟨_, _, _, _, _, _, _, _, _, _, _, _, _, rfl, rfl, rfl, rfl⟩
theorem iniA19 : IsInit (some "view") (inClass (OA.top 21) 0) := ⟨_, _, _, _, _, _, _, _, _, _, _, _, _, rfl, rfl, rfl, rfl⟩
theorem iniA20 : IsInit (some "thing") (inClass (OA.top 22) 0) := ⟨_, _, _, _, _, _, _, _, _, _, _, _, _, rfl, rfl, rfl, rfl⟩
theorem iniA21 : IsInit (some "marks") (inClass (OA.top 23) 0) := ⟨_, _, _, _, _, _, _, _, _, _, _, _, _, rfl, rfl, rfl, rfl⟩
theorem iniA22 : IsInit (some "k") (inClass (OA.top 24) 0) := ⟨_, _, _, _, _, _, _, _, _, _, _, _, _, rfl, rfl, rfl, rfl⟩
theorem iniA23 : IsInit (some "state") (inClass (OA.top 25) 0) := ⟨_, _, _, _, _, _, _, _, _, _, _, _, _, rfl, rfl, rfl, rfl⟩
theorem iniA24 : IsInit (none) (inClass (OA.top 26) 0) := ⟨_, _, _, _, _, _, _, _, rfl, rfl, rfl, rfl⟩
theorem iniA25 : IsInit (some "word") (inClass (OA.top 27) 0) := ⟨_, _, _, _, _, _, _, _, _, _, _, _, _, rfl, rfl, rfl, rfl⟩
theorem iniA26 : IsInit (some "thing") (inClass (OA.top 28) 0) := ⟨_, _, _, _, _, _, _, _, _, _, _, _, _, rfl, rfl, rfl, rfl⟩
theorem iniA27 : IsInit (some "within") (inClass (OA.top 29) 0) := ⟨_, _, _, _, _, _, _, _, _, _, _, _, _, rfl, rfl, rfl, rfl⟩
theorem iniA28 : IsInit (some "index") (inClass (OA.top 30) 0) := ⟨_, _, _, _, _, _, _, _, _, _, _, _, _, rfl, rfl, rfl, rfl⟩
theorem iniA29 : IsInit (some "wish") (inClass (OA.top 31) 0) := ⟨_, _, _, _, _, _, _, _, _, _, _, _, _, rfl, rfl, rfl, rfl⟩
theorem iniA30 : IsInit (some "prices") (inClass (OA.top 32) 0) := ⟨_, _, _, _, _, _, _, _, _, _, _, _, _, rfl, rfl, rfl, rfl⟩
theorem areInitsA : AreInits clsA := .cons iniA0 (.cons iniA1 (.cons iniA2 (.cons iniA3 (.cons iniA4 (.cons iniA5 (.cons iniA6 (.cons iniA7 (.cons iniA8 (.cons iniA9 (.cons iniA10 (.cons iniA11 (.cons iniA12 (.cons iniA13 (.cons iniA14 (.cons iniA15 (.cons iniA16 (.cons iniA17 (.cons iniA18 (.cons iniA19 (.cons iniA20 (.cons iniA21 (.cons iniA22 (.cons iniA23 (.cons iniA24 (.cons iniA25 (.cons iniA26 (.cons iniA27 (.cons iniA28 (.cons iniA29 (.cons iniA30 (.nil)))))))))))))))))))))))))))))))
theorem iniB0 : IsInit (some "book") (inClass (OA.top 34) 0) := ⟨_, _, _, _, _, _, _, _, _, _, _, _, _, rfl, rfl, rfl, rfl⟩
theorem iniB1 : IsInit (some "day") (inClass (OA.top 35) 0) := ⟨_, _, _, _, _, _, _, _, _, _, _, _, _, rfl, rfl, rfl, rfl⟩
theorem iniB2 : IsInit (some "pace") (inClass (OA.top 36) 0) := ⟨_, _, _, _, _, _, _, _, _, _, _, _, _, rfl, rfl, rfl, rfl⟩
theorem iniB3 : IsInit (some "rest") (inClass (OA.top 37) 0) := ⟨_, _, _, _, _, _, _, _, _, _, _, _, _, rfl, rfl, rfl, rfl⟩
theorem iniB4 : IsInit (some "moves") (inClass (OA.top 38) 0) := ⟨_, _, _, _, _, _, _, _, _, _, _, _, _, rfl, rfl, rfl, rfl⟩
theorem iniB5 : IsInit (some "idle") (inClass (OA.top 39) 0) := ⟨_, _, _, _, _, _, _, _, _, _, _, _, _, rfl, rfl, rfl, rfl⟩
theorem iniB6 : IsInit (some "index") (inClass (OA.top 40) 0) := ⟨_, _, _, _, _, _, _, _, _, _, _, _, _, rfl, rfl, rfl, rfl⟩
theorem iniB7 : IsInit (some "index") (inClass (OA.top 41) 0) := ⟨_, _, _, _, _, _, _, _, _, _, _, _, _, rfl, rfl, rfl, rfl⟩
theorem iniB8 : IsInit (some "stamp") (inClass (OA.top 42) 0) := ⟨_, _, _, _, _, _, _, _, _, _, _, _, _, rfl, rfl, rfl, rfl⟩
theorem iniB9 : IsInit (some "rent") (inClass (OA.top 43) 0) := ⟨_, _, _, _, _, _, _, _, _, _, _, _, _, rfl, rfl, rfl, rfl⟩
theorem iniB10 : IsInit (some "index") (inClass (OA.top 44) 0) := ⟨_, _, _, _, _, _, _, _, _, _, _, _, _, rfl, rfl, rfl, rfl⟩
theorem iniB11 : IsInit (some "many") (inClass (OA.top 45) 0) := ⟨_, _, _, _, _, _, _, _, _, _, _, _, _, rfl, rfl, rfl, rfl⟩
theorem iniB12 : IsInit (some "history") (inClass (OA.top 46) 0) := ⟨_, _, _, _, _, _, _, _, _, _, _, _, _, rfl, rfl, rfl, rfl⟩
theorem iniB13 : IsInit (some "owners") (inClass (OA.top 47) 0) := ⟨_, _, _, _, _, _, _, _, _, _, _, _, _, rfl, rfl, rfl, rfl⟩
theorem iniB14 : IsInit (some "heirs") (inClass (OA.top 48) 0) := ⟨_, _, _, _, _, _, _, _, _, _, _, _, _, rfl, rfl, rfl, rfl⟩
theorem iniB15 : IsInit (some "index") (inClass (OA.top 49) 0) := ⟨_, _, _, _, _, _, _, _, _, _, _, _, _, rfl, rfl, rfl, rfl⟩
theorem iniB16 : IsInit (some "house") (inClass (OA.top 50) 0) := ⟨_, _, _, _, _, _, _, _, _, _, _, _, _, rfl, rfl, rfl, rfl⟩
theorem iniB17 : IsInit (some "index") (inClass (OA.top 51) 0) := ⟨_, _, _, _, _, _, _, _, _, _, _, _, _, rfl, rfl, rfl, rfl⟩
theorem iniB18 : IsInit (none) (inClass (OA.top 52) 0) := ⟨_, _, _, _, _, _, _, _, rfl, rfl, rfl, rfl⟩
theorem iniB19 : IsInit (some "index") (inClass (OA.top 53) 0) := ⟨_, _, _, _, _, _, _, _, _, _, _, _, _, rfl, rfl, rfl, rfl⟩
theorem iniB20 : IsInit (some "index") (inClass (OA.top 54) 0) := ⟨_, _, _, _, _, _, _, _, _, _, _, _, _, rfl, rfl, rfl, rfl⟩
theorem iniB21 : IsInit (some "address") (inClass (OA.top 55) 0) := ⟨_, _, _, _, _, _, _, _, _, _, _, _, _, rfl, rfl, rfl, rfl⟩
theorem iniB22 : IsInit (some "thing") (inClass (OA.top 56) 0) := ⟨_, _, _, _, _, _, _, _, _, _, _, _, _, rfl, rfl, rfl, rfl⟩
theorem iniB23 : IsInit (none) (inClass (OA.top 57) 0) := ⟨_, _, _, _, _, _, _, _, rfl, rfl, rfl, rfl⟩
theorem iniB24 : IsInit (some "writer") (inClass (OA.top 58) 0) := ⟨_, _, _, _, _, _, _, _, _, _, _, _, _, rfl, rfl, rfl, rfl⟩
theorem iniB25 : IsInit (some "thing") (inClass (OA.top 59) 0) := ⟨_, _, _, _, _, _, _, _, _, _, _, _, _, rfl, rfl, rfl, rfl⟩
theorem iniB26 : IsInit (some "thing") (inClass (OA.top 60) 0) := ⟨_, _, _, _, _, _, _, _, _, _, _, _, _, rfl, rfl, rfl, rfl⟩
theorem iniB27 : IsInit (some "index") (inClass (OA.top 61) 0) := ⟨_, _, _, _, _, _, _, _, _, _, _, _, _, rfl, rfl, rfl, rfl⟩
theorem iniB28 : IsInit (some "order") (inClass (OA.top 62) 0) := ⟨_, _, _, _, _, _, _, _, _, _, _, _, _, rfl, rfl, rfl, rfl⟩
theorem iniB29 : IsInit (some "promise") (inClass (OA.top 63) 0) := ⟨_, _, _, _, _, _, _, _, _, _, _, _, _, rfl, rfl, rfl, rfl⟩
theorem iniB30 : IsInit (some "promise") (inClass (OA.top 64) 0) := ⟨_, _, _, _, _, _, _, _, _, _, _, _, _, rfl, rfl, rfl, rfl⟩
theorem iniB31 : IsInit (some "promise") (inClass (OA.top 65) 0) := ⟨_, _, _, _, _, _, _, _, _, _, _, _, _, rfl, rfl, rfl, rfl⟩
theorem iniB32 : IsInit (some "promise") (inClass (OA.top 66) 0) := ⟨_, _, _, _, _, _, _, _, _, _, _, _, _, rfl, rfl, rfl, rfl⟩
theorem iniB33 : IsInit (some "number") (inClass (OA.top 67) 0) := ⟨_, _, _, _, _, _, _, _, _, _, _, _, _, rfl, rfl, rfl, rfl⟩
theorem iniB34 : IsInit (some "thing") (inClass (OA.top 68) 0) := ⟨_, _, _, _, _, _, _, _, _, _, _, _, _, rfl, rfl, rfl, rfl⟩
theorem iniB35 : IsInit (some "line") (inClass (OA.top 69) 0) := ⟨_, _, _, _, _, _, _, _, _, _, _, _, _, rfl, rfl, rfl, rfl⟩
theorem areInitsB : AreInits clsB := .cons iniB0 (.cons iniB1 (.cons iniB2 (.cons iniB3 (.cons iniB4 (.cons iniB5 (.cons iniB6 (.cons iniB7 (.cons iniB8 (.cons iniB9 (.cons iniB10 (.cons iniB11 (.cons iniB12 (.cons iniB13 (.cons iniB14 (.cons iniB15 (.cons iniB16 (.cons iniB17 (.cons iniB18 (.cons iniB19 (.cons iniB20 (.cons iniB21 (.cons iniB22 (.cons iniB23 (.cons iniB24 (.cons iniB25 (.cons iniB26 (.cons iniB27 (.cons iniB28 (.cons iniB29 (.cons iniB30 (.cons iniB31 (.cons iniB32 (.cons iniB33 (.cons iniB34 (.cons iniB35 (.nil))))))))))))))))))))))))))))))))))))
theorem bds_address : Bds "address" := by
  intro fd h1 h2 h3 x u
  obtain ⟨n1, n2, ps, b, s, c, d1, d2, g⟩ := fd
  obtain ⟨p1, p2, h1⟩ := h1
  dsimp only at h1 h2 h3
  subst h1 h2 h3
  exact ⟨rfl, rfl⟩
theorem bds_book : Bds "book" := by
  intro fd h1 h2 h3 x u
  obtain ⟨n1, n2, ps, b, s, c, d1, d2, g⟩ := fd
  obtain ⟨p1, p2, h1⟩ := h1
  dsimp only at h1 h2 h3
  subst h1 h2 h3
  exact ⟨rfl, rfl⟩
theorem bds_day : Bds "day" := by
  intro fd h1 h2 h3 x u
  obtain ⟨n1, n2, ps, b, s, c, d1, d2, g⟩ := fd
  obtain ⟨p1, p2, h1⟩ := h1
  dsimp only at h1 h2 h3
  subst h1 h2 h3
  exact ⟨rfl, rfl⟩
theorem bds_deed : Bds "deed" := by
  intro fd h1 h2 h3 x u
  obtain ⟨n1, n2, ps, b, s, c, d1, d2, g⟩ := fd
  obtain ⟨p1, p2, h1⟩ := h1
  dsimp only at h1 h2 h3
  subst h1 h2 h3
  exact ⟨rfl, rfl⟩
theorem bds_due : Bds "due" := by
  intro fd h1 h2 h3 x u
  obtain ⟨n1, n2, ps, b, s, c, d1, d2, g⟩ := fd
  obtain ⟨p1, p2, h1⟩ := h1
  dsimp only at h1 h2 h3
  subst h1 h2 h3
  exact ⟨rfl, rfl⟩
theorem bds_heirs : Bds "heirs" := by
  intro fd h1 h2 h3 x u
  obtain ⟨n1, n2, ps, b, s, c, d1, d2, g⟩ := fd
  obtain ⟨p1, p2, h1⟩ := h1
  dsimp only at h1 h2 h3
  subst h1 h2 h3
  exact ⟨rfl, rfl⟩
theorem bds_history : Bds "history" := by
  intro fd h1 h2 h3 x u
  obtain ⟨n1, n2, ps, b, s, c, d1, d2, g⟩ := fd
  obtain ⟨p1, p2, h1⟩ := h1
  dsimp only at h1 h2 h3
  subst h1 h2 h3
  exact ⟨rfl, rfl⟩
theorem bds_holder : Bds "holder" := by
  intro fd h1 h2 h3 x u
  obtain ⟨n1, n2, ps, b, s, c, d1, d2, g⟩ := fd
  obtain ⟨p1, p2, h1⟩ := h1
  dsimp only at h1 h2 h3
  subst h1 h2 h3
  exact ⟨rfl, rfl⟩
theorem bds_house : Bds "house" := by
  intro fd h1 h2 h3 x u
  obtain ⟨n1, n2, ps, b, s, c, d1, d2, g⟩ := fd
  obtain ⟨p1, p2, h1⟩ := h1
  dsimp only at h1 h2 h3
  subst h1 h2 h3
  exact ⟨rfl, rfl⟩
theorem bds_idle : Bds "idle" := by
  intro fd h1 h2 h3 x u
  obtain ⟨n1, n2, ps, b, s, c, d1, d2, g⟩ := fd
  obtain ⟨p1, p2, h1⟩ := h1
  dsimp only at h1 h2 h3
  subst h1 h2 h3
  exact ⟨rfl, rfl⟩
theorem bds_index : Bds "index" := by
  intro fd h1 h2 h3 x u
  obtain ⟨n1, n2, ps, b, s, c, d1, d2, g⟩ := fd
  obtain ⟨p1, p2, h1⟩ := h1
  dsimp only at h1 h2 h3
  subst h1 h2 h3
  exact ⟨rfl, rfl⟩
theorem bds_k : Bds "k" := by
  intro fd h1 h2 h3 x u
  obtain ⟨n1, n2, ps, b, s, c, d1, d2, g⟩ := fd
  obtain ⟨p1, p2, h1⟩ := h1
  dsimp only at h1 h2 h3
  subst h1 h2 h3
  exact ⟨rfl, rfl⟩
theorem bds_life : Bds "life" := by
  intro fd h1 h2 h3 x u
  obtain ⟨n1, n2, ps, b, s, c, d1, d2, g⟩ := fd
  obtain ⟨p1, p2, h1⟩ := h1
  dsimp only at h1 h2 h3
  subst h1 h2 h3
  exact ⟨rfl, rfl⟩
theorem bds_line : Bds "line" := by
  intro fd h1 h2 h3 x u
  obtain ⟨n1, n2, ps, b, s, c, d1, d2, g⟩ := fd
  obtain ⟨p1, p2, h1⟩ := h1
  dsimp only at h1 h2 h3
  subst h1 h2 h3
  exact ⟨rfl, rfl⟩
theorem bds_many : Bds "many" := by
  intro fd h1 h2 h3 x u
  obtain ⟨n1, n2, ps, b, s, c, d1, d2, g⟩ := fd
  obtain ⟨p1, p2, h1⟩ := h1
  dsimp only at h1 h2 h3
  subst h1 h2 h3
  exact ⟨rfl, rfl⟩
theorem bds_marks : Bds "marks" := by
  intro fd h1 h2 h3 x u
  obtain ⟨n1, n2, ps, b, s, c, d1, d2, g⟩ := fd
  obtain ⟨p1, p2, h1⟩ := h1
  dsimp only at h1 h2 h3
  subst h1 h2 h3
  exact ⟨rfl, rfl⟩
theorem bds_moment : Bds "moment" := by
  intro fd h1 h2 h3 x u
  obtain ⟨n1, n2, ps, b, s, c, d1, d2, g⟩ := fd
  obtain ⟨p1, p2, h1⟩ := h1
  dsimp only at h1 h2 h3
  subst h1 h2 h3
  exact ⟨rfl, rfl⟩
theorem bds_most : Bds "most" := by
  intro fd h1 h2 h3 x u
  obtain ⟨n1, n2, ps, b, s, c, d1, d2, g⟩ := fd
  obtain ⟨p1, p2, h1⟩ := h1
  dsimp only at h1 h2 h3
  subst h1 h2 h3
  exact ⟨rfl, rfl⟩
theorem bds_moves : Bds "moves" := by
  intro fd h1 h2 h3 x u
  obtain ⟨n1, n2, ps, b, s, c, d1, d2, g⟩ := fd
  obtain ⟨p1, p2, h1⟩ := h1
  dsimp only at h1 h2 h3
  subst h1 h2 h3
  exact ⟨rfl, rfl⟩
theorem bds_number : Bds "number" := by
  intro fd h1 h2 h3 x u
  obtain ⟨n1, n2, ps, b, s, c, d1, d2, g⟩ := fd
  obtain ⟨p1, p2, h1⟩ := h1
  dsimp only at h1 h2 h3
  subst h1 h2 h3
  exact ⟨rfl, rfl⟩
theorem bds_order : Bds "order" := by
  intro fd h1 h2 h3 x u
  obtain ⟨n1, n2, ps, b, s, c, d1, d2, g⟩ := fd
  obtain ⟨p1, p2, h1⟩ := h1
  dsimp only at h1 h2 h3
  subst h1 h2 h3
  exact ⟨rfl, rfl⟩
theorem bds_owners : Bds "owners" := by
  intro fd h1 h2 h3 x u
  obtain ⟨n1, n2, ps, b, s, c, d1, d2, g⟩ := fd
  obtain ⟨p1, p2, h1⟩ := h1
  dsimp only at h1 h2 h3
  subst h1 h2 h3
  exact ⟨rfl, rfl⟩
theorem bds_pace : Bds "pace" := by
  intro fd h1 h2 h3 x u
  obtain ⟨n1, n2, ps, b, s, c, d1, d2, g⟩ := fd
  obtain ⟨p1, p2, h1⟩ := h1
  dsimp only at h1 h2 h3
  subst h1 h2 h3
  exact ⟨rfl, rfl⟩
theorem bds_piece : Bds "piece" := by
  intro fd h1 h2 h3 x u
  obtain ⟨n1, n2, ps, b, s, c, d1, d2, g⟩ := fd
  obtain ⟨p1, p2, h1⟩ := h1
  dsimp only at h1 h2 h3
  subst h1 h2 h3
  exact ⟨rfl, rfl⟩
theorem bds_policy : Bds "policy" := by
  intro fd h1 h2 h3 x u
  obtain ⟨n1, n2, ps, b, s, c, d1, d2, g⟩ := fd
  obtain ⟨p1, p2, h1⟩ := h1
  dsimp only at h1 h2 h3
  subst h1 h2 h3
  exact ⟨rfl, rfl⟩
theorem bds_prices : Bds "prices" := by
  intro fd h1 h2 h3 x u
  obtain ⟨n1, n2, ps, b, s, c, d1, d2, g⟩ := fd
  obtain ⟨p1, p2, h1⟩ := h1
  dsimp only at h1 h2 h3
  subst h1 h2 h3
  exact ⟨rfl, rfl⟩
theorem bds_promise : Bds "promise" := by
  intro fd h1 h2 h3 x u
  obtain ⟨n1, n2, ps, b, s, c, d1, d2, g⟩ := fd
  obtain ⟨p1, p2, h1⟩ := h1
  dsimp only at h1 h2 h3
  subst h1 h2 h3
  exact ⟨rfl, rfl⟩
theorem bds_rent : Bds "rent" := by
  intro fd h1 h2 h3 x u
  obtain ⟨n1, n2, ps, b, s, c, d1, d2, g⟩ := fd
  obtain ⟨p1, p2, h1⟩ := h1
  dsimp only at h1 h2 h3
  subst h1 h2 h3
  exact ⟨rfl, rfl⟩
theorem bds_rest : Bds "rest" := by
  intro fd h1 h2 h3 x u
  obtain ⟨n1, n2, ps, b, s, c, d1, d2, g⟩ := fd
  obtain ⟨p1, p2, h1⟩ := h1
  dsimp only at h1 h2 h3
  subst h1 h2 h3
  exact ⟨rfl, rfl⟩
theorem bds_stamp : Bds "stamp" := by
  intro fd h1 h2 h3 x u
  obtain ⟨n1, n2, ps, b, s, c, d1, d2, g⟩ := fd
  obtain ⟨p1, p2, h1⟩ := h1
  dsimp only at h1 h2 h3
  subst h1 h2 h3
  exact ⟨rfl, rfl⟩
theorem bds_state : Bds "state" := by
  intro fd h1 h2 h3 x u
  obtain ⟨n1, n2, ps, b, s, c, d1, d2, g⟩ := fd
  obtain ⟨p1, p2, h1⟩ := h1
  dsimp only at h1 h2 h3
  subst h1 h2 h3
  exact ⟨rfl, rfl⟩
theorem bds_thing : Bds "thing" := by
  intro fd h1 h2 h3 x u
  obtain ⟨n1, n2, ps, b, s, c, d1, d2, g⟩ := fd
  obtain ⟨p1, p2, h1⟩ := h1
  dsimp only at h1 h2 h3
  subst h1 h2 h3
  exact ⟨rfl, rfl⟩
theorem bds_times : Bds "times" := by
  intro fd h1 h2 h3 x u
  obtain ⟨n1, n2, ps, b, s, c, d1, d2, g⟩ := fd
  obtain ⟨p1, p2, h1⟩ := h1
  dsimp only at h1 h2 h3
  subst h1 h2 h3
  exact ⟨rfl, rfl⟩
theorem bds_view : Bds "view" := by
  intro fd h1 h2 h3 x u
  obtain ⟨n1, n2, ps, b, s, c, d1, d2, g⟩ := fd
  obtain ⟨p1, p2, h1⟩ := h1
  dsimp only at h1 h2 h3
  subst h1 h2 h3
  exact ⟨rfl, rfl⟩
theorem bds_width : Bds "width" := by
  intro fd h1 h2 h3 x u
  obtain ⟨n1, n2, ps, b, s, c, d1, d2, g⟩ := fd
  obtain ⟨p1, p2, h1⟩ := h1
  dsimp only at h1 h2 h3
  subst h1 h2 h3
  exact ⟨rfl, rfl⟩
theorem bds_wish : Bds "wish" := by
  intro fd h1 h2 h3 x u
  obtain ⟨n1, n2, ps, b, s, c, d1, d2, g⟩ := fd
  obtain ⟨p1, p2, h1⟩ := h1
  dsimp only at h1 h2 h3
  subst h1 h2 h3
  exact ⟨rfl, rfl⟩
theorem bds_within : Bds "within" := by
  intro fd h1 h2 h3 x u
  obtain ⟨n1, n2, ps, b, s, c, d1, d2, g⟩ := fd
  obtain ⟨p1, p2, h1⟩ := h1
  dsimp only at h1 h2 h3
  subst h1 h2 h3
  exact ⟨rfl, rfl⟩
theorem bds_word : Bds "word" := by
  intro fd h1 h2 h3 x u
  obtain ⟨n1, n2, ps, b, s, c, d1, d2, g⟩ := fd
  obtain ⟨p1, p2, h1⟩ := h1
  dsimp only at h1 h2 h3
  subst h1 h2 h3
  exact ⟨rfl, rfl⟩
theorem bds_writer : Bds "writer" := by
  intro fd h1 h2 h3 x u
  obtain ⟨n1, n2, ps, b, s, c, d1, d2, g⟩ := fd
  obtain ⟨p1, p2, h1⟩ := h1
  dsimp only at h1 h2 h3
  subst h1 h2 h3
  exact ⟨rfl, rfl⟩
/-- a field's name as it may stand -/
structure FldOk (f : Str) : Prop where
  b : Bds f
  o : (f == ("self" : Str)) = false ∧ (f == ("__class__" : Str)) = false ∧ (f == ("super" : Str)) = false ∧ (f == ("__debug__" : Str)) = false
def FosOk (fo : Option Str) : Prop := match fo with
  | some f => FldOk f
  | none => True
inductive AreFos : List ClD → Prop where
  | nil : AreFos []
  | cons {r : ClD} {rs : List ClD} : FosOk r.2.1 → AreFos rs → AreFos (r :: rs)
theorem fld_address : FldOk "address" := ⟨bds_address, by decide +kernel, by decide +kernel, by decide +kernel, by decide +kernel⟩
theorem fld_book : FldOk "book" := ⟨bds_book, by decide +kernel, by decide +kernel, by decide +kernel, by decide +kernel⟩
theorem fld_day : FldOk "day" := ⟨bds_day, by decide +kernel, by decide +kernel, by decide +kernel, by decide +kernel⟩
theorem fld_deed : FldOk "deed" := ⟨bds_deed, by decide +kernel, by decide +kernel, by decide +kernel, by decide +kernel⟩
theorem fld_due : FldOk "due" := ⟨bds_due, by decide +kernel, by decide +kernel, by decide +kernel, by decide +kernel⟩
theorem fld_heirs : FldOk "heirs" := ⟨bds_heirs, by decide +kernel, by decide +kernel, by decide +kernel, by decide +kernel⟩
theorem fld_history : FldOk "history" := ⟨bds_history, by decide +kernel, by decide +kernel, by decide +kernel, by decide +kernel⟩
theorem fld_holder : FldOk "holder" := ⟨bds_holder, by decide +kernel, by decide +kernel, by decide +kernel, by decide +kernel⟩
theorem fld_house : FldOk "house" := ⟨bds_house, by decide +kernel, by decide +kernel, by decide +kernel, by decide +kernel⟩
theorem fld_idle : FldOk "idle" := ⟨bds_idle, by decide +kernel, by decide +kernel, by decide +kernel, by decide +kernel⟩
theorem fld_index : FldOk "index" := ⟨bds_index, by decide +kernel, by decide +kernel, by decide +kernel, by decide +kernel⟩
theorem fld_k : FldOk "k" := ⟨bds_k, by decide +kernel, by decide +kernel, by decide +kernel, by decide +kernel⟩
theorem fld_life : FldOk "life" := ⟨bds_life, by decide +kernel, by decide +kernel, by decide +kernel, by decide +kernel⟩
theorem fld_line : FldOk "line" := ⟨bds_line, by decide +kernel, by decide +kernel, by decide +kernel, by decide +kernel⟩
theorem fld_many : FldOk "many" := ⟨bds_many, by decide +kernel, by decide +kernel, by decide +kernel, by decide +kernel⟩
theorem fld_marks : FldOk "marks" := ⟨bds_marks, by decide +kernel, by decide +kernel, by decide +kernel, by decide +kernel⟩
theorem fld_moment : FldOk "moment" := ⟨bds_moment, by decide +kernel, by decide +kernel, by decide +kernel, by decide +kernel⟩
theorem fld_most : FldOk "most" := ⟨bds_most, by decide +kernel, by decide +kernel, by decide +kernel, by decide +kernel⟩
theorem fld_moves : FldOk "moves" := ⟨bds_moves, by decide +kernel, by decide +kernel, by decide +kernel, by decide +kernel⟩
theorem fld_number : FldOk "number" := ⟨bds_number, by decide +kernel, by decide +kernel, by decide +kernel, by decide +kernel⟩
theorem fld_order : FldOk "order" := ⟨bds_order, by decide +kernel, by decide +kernel, by decide +kernel, by decide +kernel⟩
theorem fld_owners : FldOk "owners" := ⟨bds_owners, by decide +kernel, by decide +kernel, by decide +kernel, by decide +kernel⟩
theorem fld_pace : FldOk "pace" := ⟨bds_pace, by decide +kernel, by decide +kernel, by decide +kernel, by decide +kernel⟩
theorem fld_piece : FldOk "piece" := ⟨bds_piece, by decide +kernel, by decide +kernel, by decide +kernel, by decide +kernel⟩
theorem fld_policy : FldOk "policy" := ⟨bds_policy, by decide +kernel, by decide +kernel, by decide +kernel, by decide +kernel⟩
theorem fld_prices : FldOk "prices" := ⟨bds_prices, by decide +kernel, by decide +kernel, by decide +kernel, by decide +kernel⟩
theorem fld_promise : FldOk "promise" := ⟨bds_promise, by decide +kernel, by decide +kernel, by decide +kernel, by decide +kernel⟩
theorem fld_rent : FldOk "rent" := ⟨bds_rent, by decide +kernel, by decide +kernel, by decide +kernel, by decide +kernel⟩
theorem fld_rest : FldOk "rest" := ⟨bds_rest, by decide +kernel, by decide +kernel, by decide +kernel, by decide +kernel⟩
theorem fld_stamp : FldOk "stamp" := ⟨bds_stamp, by decide +kernel, by decide +kernel, by decide +kernel, by decide +kernel⟩
theorem fld_state : FldOk "state" := ⟨bds_state, by decide +kernel, by decide +kernel, by decide +kernel, by decide +kernel⟩
theorem fld_thing : FldOk "thing" := ⟨bds_thing, by decide +kernel, by decide +kernel, by decide +kernel, by decide +kernel⟩
theorem fld_times : FldOk "times" := ⟨bds_times, by decide +kernel, by decide +kernel, by decide +kernel, by decide +kernel⟩
theorem fld_view : FldOk "view" := ⟨bds_view, by decide +kernel, by decide +kernel, by decide +kernel, by decide +kernel⟩
theorem fld_width : FldOk "width" := ⟨bds_width, by decide +kernel, by decide +kernel, by decide +kernel, by decide +kernel⟩
theorem fld_wish : FldOk "wish" := ⟨bds_wish, by decide +kernel, by decide +kernel, by decide +kernel, by decide +kernel⟩
theorem fld_within : FldOk "within" := ⟨bds_within, by decide +kernel, by decide +kernel, by decide +kernel, by decide +kernel⟩
theorem fld_word : FldOk "word" := ⟨bds_word, by decide +kernel, by decide +kernel, by decide +kernel, by decide +kernel⟩
theorem fld_writer : FldOk "writer" := ⟨bds_writer, by decide +kernel, by decide +kernel, by decide +kernel, by decide +kernel⟩
theorem areFosA : AreFos clsA := .cons fld_index (.cons fld_most (.cons fld_thing (.cons fld_index (.cons fld_moment (.cons fld_address (.cons fld_piece (.cons fld_index (.cons fld_deed (.cons fld_index (.cons fld_piece (.cons fld_times (.cons fld_life (.cons fld_holder (.cons fld_policy (.cons fld_due (.cons fld_promise (.cons fld_width (.cons fld_thing (.cons fld_view (.cons fld_thing (.cons fld_marks (.cons fld_k (.cons fld_state (.cons trivial (.cons fld_word (.cons fld_thing (.cons fld_within (.cons fld_index (.cons fld_wish (.cons fld_prices (.nil)))))))))))))))))))))))))))))))
theorem areFosB : AreFos clsB := .cons fld_book (.cons fld_day (.cons fld_pace (.cons fld_rest (.cons fld_moves (.cons fld_idle (.cons fld_index (.cons fld_index (.cons fld_stamp (.cons fld_rent (.cons fld_index (.cons fld_many (.cons fld_history (.cons fld_owners (.cons fld_heirs (.cons fld_index (.cons fld_house (.cons fld_index (.cons trivial (.cons fld_index (.cons fld_index (.cons fld_address (.cons fld_thing (.cons trivial (.cons fld_writer (.cons fld_thing (.cons fld_thing (.cons fld_index (.cons fld_order (.cons fld_promise (.cons fld_promise (.cons fld_promise (.cons fld_promise (.cons fld_number (.cons fld_thing (.cons fld_line (.nil))))))))))))))))))))))))))))))))))))
theorem rows_clsA : rowsA = clsA.map fun r => (r.1, r.2.1) := rfl
theorem rows_clsB : rowsB = clsB.map fun r => (r.1, r.2.1) := rfl
theorem kins_clsA : kinsA.flatten = clsA.map (·.1) := rfl
theorem kins_clsB : kinsB.flatten = clsB.map (·.1) := rfl
end OE
namespace OE
open PySem PySem.Spec PyProof.Rows L2 LamX
/-! ### what the checks say -/
theorem shape_ok {K : PySem.W.Frag} {C cE : Addr} (c : clsShape K C cE = true) : ∃ nm q N bs sn sub ab col dd k0 k1 k2 k3 k5, K.lookup C = some (excClassObj nm q C N bs (.ref cE :: eTail) true sn sub ab col dd k0 k1 k2 k3 k5 "ValueError.__new__") := by
  unfold clsShape at c
  split at c
  · rename_i dd cd sl e
    simp only [Bool.and_eq_true, Bool.not_eq_true', decide_eq_true_eq] at c
    obtain ⟨c1, c2, c3, c4⟩ := c
    obtain ⟨nm, bs, mro, ns, qn, hd, sn, sb, ab, col, del⟩ := cd
    dsimp only at c1 c2 c3
    subst c1 c2 c3
    unfold newIs at c4
    split at c4
    · rename_i k0 k1 k2 k3 n k5 hs
      have en : n = "ValueError.__new__" := beq_iff_eq.mp c4
      subst en
      have hsl : sl = #[k0, k1, k2, k3, some (.builtin "ValueError.__new__"), k5] := by
        obtain ⟨l⟩ := sl
        simp only at hs
        rw [hs]
      subst hsl
      exact ⟨nm, qn, ns, bs, sn, sb, ab, col, dd, k0, k1, k2, k3, k5, e⟩
    · cases c4
  · cases c
structure ChkC (K : PySem.W.Frag) (file : Str) (cE : Addr) (r : ClD) : Prop where
  shape : clsShape K (He.ga K r.1) cE = true
  keep : PySem.W.keepIn K (.ref (He.ga K r.1)) = true
  sa : PySem.W.findIn K (.ref (He.ga K r.1)) "__setattr__" = some (some (.builtin "object.__setattr__"))
  nof : noF K (He.ga K r.1) r.2.1 = true
  iC : PySem.W.findIn K (.ref (He.ga K r.1)) "__init__" = some (some (.ref (iAt K r.1)))
  tC : PySem.W.typeIn K (.ref (iAt K r.1)) = some (.type "function")
  sup : PySem.W.ks_superIn K (He.ga K r.1) (He.ga K r.1) "__init__" = some (some (.builtin "ValueError.__init__"))
  exI : PySem.W.excInitIn K (He.ga K r.1) eTail "ValueError.__new__" = true
  xf : xfB K (He.ga K r.1) = true
  dc : PySem.W.findIn K (.ref (He.ga K r.1)) "__class__" = some (some (.builtin "object.__class__"))
  ini : initShape K file (He.ga K r.1) (iAt K r.1) = true
  glo : PySem.W.nsIn K mainGlobals r.1 = some (some (.ref (He.ga K r.1)))
  nd : (r.1 == ("__debug__" : Str)) = false
section
variable {K : PySem.W.Frag} {file : Str} {cE : Addr} {r : ClD}
/-- a class's chain -/
theorem mro_of {C : Addr} (h : ∃ nm q N bs sn sub ab col dd k0 k1 k2 k3 k5, K.lookup C = some (excClassObj nm q C N bs (.ref cE :: eTail) true sn sub ab col dd k0 k1 k2 k3 k5 "ValueError.__new__")) (b : Value) : PySem.W.mroIn K C b = some ((Value.ref C :: .ref cE :: eTail).contains b) := by
  obtain ⟨nm, q, N, bs, sn, sub, ab, col, dd, k0, k1, k2, k3, k5, e⟩ := h
  unfold PySem.W.mroIn PySem.W.clsIn
  rw [e] <;> rfl
theorem cls_isSome {C : Addr} (h : ∃ nm q N bs sn sub ab col dd k0 k1 k2 k3 k5, K.lookup C = some (excClassObj nm q C N bs (.ref cE :: eTail) true sn sub ab col dd k0 k1 k2 k3 k5 "ValueError.__new__")) : (PySem.W.clsIn K C).isSome = true ∧ PySem.W.typeIn K (.ref C) = some (.type "type") := by
  obtain ⟨nm, q, N, bs, sn, sub, ab, col, dd, k0, k1, k2, k3, k5, e⟩ := h
  constructor
  · unfold PySem.W.clsIn
    rw [e] <;> rfl
  · show (K.lookup C).map (·.cls) = _
    rw [e] <;> rfl
theorem has_self {C : Addr} : (Value.ref C :: .ref cE :: eTail).contains (.ref C) = true := by simp
theorem has_ty {C : Addr} (T : String) (h : eTail.contains (.type T) = true) : (Value.ref C :: .ref cE :: eTail).contains (.type T) = true := by
  rw [List.contains_cons, List.contains_cons, h, Bool.or_true, Bool.or_true]
theorem has_cls {C D : Addr} (hD : cE ≠ D) : (Value.ref C :: .ref cE :: eTail).contains (.ref D) = decide (C = D) := by
  by_cases e : C = D
  · subst e
    rw [has_self, decide_eq_true rfl]
  · rw [decide_eq_false e]
    have h1 : (Value.ref D == Value.ref C) = false := beq_eq_false_iff_ne.mpr fun z => e (Value.ref.inj z).symm
    have h2 : (Value.ref D == Value.ref cE) = false := beq_eq_false_iff_ne.mpr fun z => hD (Value.ref.inj z).symm
    rw [List.contains_cons, List.contains_cons, h1, h2]
    simp [eTail]
theorem kit_of (c : ChkC K file cE r) {D : Addr} (hD : (PySem.W.clsIn K D).isSome = true ∧ PySem.W.typeIn K (.ref D) = some (.type "type")) (ne : cE ≠ D) : PySem.W.kitOne K (.ref (He.ga K r.1)) (.ref D) = some (decide (He.ga K r.1 = D)) := by
  have s := shape_ok c.shape
  unfold PySem.W.kitOne
  by_cases e : He.ga K r.1 = D
  · rw [if_pos (by rw [e]; simp), decide_eq_true e]
  · rw [if_neg (by simpa using e)]
    show (if ((PySem.W.clsIn K D).isSome && PySem.W.typeIn K (.ref D) == some (.type "type")) = true then PySem.W.subIn K (.ref (He.ga K r.1)) (.ref D) else none) = _
    rw [if_pos (by rw [hD.1, hD.2] <;> rfl)]
    show PySem.W.mroIn K (He.ga K r.1) (.ref D) = _
    rw [mro_of s, has_cls ne]
theorem kit_base (c : ChkC K file cE r) (hE : (PySem.W.clsIn K cE).isSome = true ∧ PySem.W.typeIn K (.ref cE) = some (.type "type")) : PySem.W.kitOne K (.ref (He.ga K r.1)) (.ref cE) = some true := by
  have s := shape_ok c.shape
  unfold PySem.W.kitOne
  split
  · rfl
  · show (if ((PySem.W.clsIn K cE).isSome && PySem.W.typeIn K (.ref cE) == some (.type "type")) = true then PySem.W.subIn K (.ref (He.ga K r.1)) (.ref cE) else none) = _
    rw [if_pos (by rw [hE.1, hE.2] <;> rfl)]
    show PySem.W.mroIn K (He.ga K r.1) (.ref cE) = _
    rw [mro_of s]
    simp
theorem kit_tyOf (c : ChkC K file cE r) (T : String) (hm : PySem.W.kitMeta T = true) {b : Bool} (hb : eTail.contains (.type T) = b) : PySem.W.kitOne K (.ref (He.ga K r.1)) (.type T) = some b := by
  have s := shape_ok c.shape
  unfold PySem.W.kitOne
  rw [if_neg (by simp)]
  show (if PySem.W.kitMeta T = true then PySem.W.subIn K (.ref (He.ga K r.1)) (.type T) else none) = _
  rw [if_pos hm]
  show PySem.W.mroIn K (He.ga K r.1) (.type T) = _
  rw [mro_of s, List.contains_cons, List.contains_cons, hb]
  have h1 : (Value.type T == Value.ref (He.ga K r.1)) = false := by simp
  have h2 : (Value.type T == Value.ref cE) = false := by simp
  rw [h1, h2, Bool.false_or, Bool.false_or]
theorem asked_of (c : ChkC K file cE r) : Asked K (He.ga K r.1) := ⟨xfB_ok c.xf, (cls_isSome (shape_ok c.shape)).1, c.dc, by rw [mro_of (shape_ok c.shape), has_ty "object" (by decide +kernel)]⟩
theorem nof_of (c : ChkC K file cE r) : NoF K (He.ga K r.1) r.2.1 := by
  have h := c.nof
  unfold noF at h
  unfold NoF
  cases e : r.2.1 with
  | none => trivial
  | some f =>
    rw [e] at h
    exact He.eqO_ok h
/-- the function's own fields -/
theorem init_of {P : Program} {st : Stmt} (hf : file = P.main.file) (c : ChkC K file cE r) (o : initO K (iAt K r.1) = initV st) : ∃ (oc : Value) (od : Option Addr) (doc pm : Value) (an : Option Addr) (ct : Value) (osl : Array (Option Value)) (qual : Str) (cc cda : Addr) (vs : Array Value) (fl : Str) (tf : Tok) (ccl cl : Value) (cdd cld : Option Addr) (ccs csl : Array (Option Value)),
    K.lookup (iAt K r.1) = some ⟨oc, od, .func (PySem.W.fnX "__init__" qual (defArgs st) (defBody st) (defScope st) [("__class__", cc)] .none .none doc pm an (.ref cda) ct), osl⟩ ∧ PySem.W.codeIn K (.ref cda) qual = true ∧
    K.lookup cda = some ⟨ccl, cdd, .fields vs, ccs⟩ ∧ vs[2]? = some (.str fl tf) ∧ ((P.main.file : Str) == fl) = true ∧ K.lookup cc = some ⟨cl, cld, .cell (some (.ref (He.ga K r.1))), csl⟩ := by
  have h := c.ini
  unfold initShape at h
  unfold initO at o
  cases e : K.lookup (iAt K r.1) with
  | none =>
    rw [e] at h
    cases h
  | some ob =>
    obtain ⟨oc, od, dt, osl⟩ := ob
    rw [e] at h o
    cases dt with
    | func fd =>
      obtain ⟨n1, n2, n3, n4, n5, n6, n7, n8, n9, n10, n11, n12, n13, n14, n15⟩ := fd
      dsimp only at h o
      simp only [Bool.and_eq_true] at h
      obtain ⟨h1, h2⟩ := h
      have o2 : (some (n1, n3, n4, n5, n6, n7.map (·.1), n8, n9, n15) : InV) = initV st := o
      unfold initV at o2
      simp only [Option.some.injEq, Prod.mk.injEq] at o2
      obtain ⟨o1, o2, o3, o4, o5, o6, o7, o8, o9⟩ := o2
      subst o1 o2 o3 o4 o5 o7 o8 o9
      unfold cellIs at h2
      split at h2
      · rename_i x cc
        split at h2
        · rename_i cl cld C' csl ec
          have eC : C' = He.ga K r.1 := beq_iff_eq.mp h2
          subst eC
          have ex : x = ("__class__" : Str) := by simpa using o6
          subst ex
          split at h1
          · rename_i cda
            simp only [Bool.and_eq_true] at h1
            obtain ⟨g1, g2⟩ := h1
            unfold fileIs at g2
            split at g2
            · rename_i ccl cdd vs ccs ek
              split at g2
              · rename_i fl tf ev
                exact ⟨oc, od, n10, n11, n12, n14, osl, n2, cc, cda, vs, fl, tf, ccl, cl, cdd, cld, ccs, csl, rfl, g1, ek, ev, by rw [← hf]; exact g2, ec⟩
              · cases g2
            · cases g2
          · cases h1
        · cases h2
      · cases h2
    | _ => cases h
theorem rowK_of {P : Program} {h : Heap} {mg : Str → Option Value} (hf : file = P.main.file) (X : K.In h) (G : h.Ns mainGlobals mg) (c : ChkC K file cE r) (o : initO K (iAt K r.1) = initV (cInit r)) (I : IsInit r.2.1 (cInit r)) (F : FosOk r.2.1)
    (opq : PySem.W.nsIn K cStatics "thirdparty.any" = some none) (spr : PySem.W.nsIn K mainGlobals "super" = some none) : RowK P K mg r.1 r.2.1 (He.ga K r.1) (iAt K r.1) := by
  obtain ⟨oc, od, doc, pm, an, ct, osl, qual, cc, cda, vs, fl, tf, ccl, cl, cdd, cld, ccs, csl, k1, k2, k3, k4, k5, k6⟩ := init_of (P := P) hf c o
  obtain ⟨nm, q, N, bs, sn, sub, ab, col, dd, m0, m1, m2, m3, m5, hC⟩ := shape_ok c.shape
  have sh := shape_ok c.shape
  have rv : PySem.HandSPX.refsVE (.ref cE :: eTail) = true := by
    show PySem.HandSPX.refsVE eTail = true
    decide +kernel
  have hm1 : PySem.W.mroIn K (He.ga K r.1) (.ref (He.ga K r.1)) = some true := by rw [mro_of sh, has_self]
  have hm2 : PySem.W.subIn K (.ref (He.ga K r.1)) (.type "ValueError") = some true := by
    show PySem.W.mroIn K (He.ga K r.1) (.type "ValueError") = _
    rw [mro_of sh, has_ty "ValueError" (by decide +kernel)]
  refine ⟨?_, PySem.W.mg_of X G c.glo, c.keep, c.nd⟩
  cases e : r.2.1 with
  | none =>
    rw [e] at I
    obtain ⟨p1, tx, a, b, c', d, e0, e', i1, i2, i3, i4⟩ := I
    rw [i1, i2, i3] at k1
    exact ⟨⟨nm, q, N, bs, _, sn, sub, ab, col, dd, m0, m1, m2, m3, m5, hC, rv⟩, c.iC, c.tC, c.sup, hm1, c.exI, hm2, opq, spr, ⟨oc, od, doc, pm, an, ct, osl, p1, tx, a, b, c', d, e0, e', qual, cc, cda, vs, fl, tf, ccl, cl, cdd, cld, ccs, csl, k1, k2, i4, k3, k4, k5, k6⟩⟩
  | some f =>
    rw [e] at I F
    have nf := nof_of c
    rw [e] at nf
    obtain ⟨p1, p2, tx, a, b, c', d, e0, e', g, h, i, j, i1, i2, i3, i4⟩ := I
    rw [i1, i2, i3] at k1
    exact ⟨⟨⟨nm, q, N, bs, _, sn, sub, ab, col, dd, m0, m1, m2, m3, m5, hC, rv⟩, c.sa, nf, c.iC, c.tC, c.sup, hm1, c.exI, hm2, opq, spr, ⟨oc, od, doc, pm, an, ct, osl, p1, p2, tx, a, b, c', d, e0, e', g, h, i, j, qual, cc, cda, vs, fl, tf, ccl, cl, cdd, cld, ccs, csl, k1, k2, i4, k3, k4, k5, k6⟩, F.o⟩, F.b⟩
end
end OE
namespace OE
open PySem PySem.Spec PyProof.Rows L2 LamX
/-! ### from the objects to the written part -/
def tab0 : Obj := { cls := .none, data := .fields #[] }
def gF (g : Addr → Option Obj) (Ps : List Addr) : Addr → Option Obj := fun a => if a ∈ Ps then none else g a
theorem frG_mem {g : Addr → Option Obj} {a : Addr} {o : Obj} (e : g a = some o) : ∀ {as : List Addr}, a ∈ as → (He.frG g as).lookup a = some o
  | b :: as, m => by
    unfold He.frG
    by_cases hb : a = b
    · subst hb
      rw [List.filterMap_cons, e]
      simp [List.lookup]
    · have m' : a ∈ as := by
        rcases List.mem_cons.mp m with z | z
        · exact absurd z hb
        · exact z
      have ih := frG_mem (g := g) e m'
      unfold He.frG at ih
      rw [List.filterMap_cons]
      have hb' : (a == b) = false := by simpa using hb
      cases q : g b with
      | none => simpa [q] using ih
      | some ob => simpa [q, List.lookup, hb'] using ih
/-- the part as of the objects at as -/
structure Part (K : PySem.W.Frag) (g : Addr → Option Obj) (as : List Addr) (Ps : List Addr) : Prop where
  at_ : ∀ a o, a ∈ as → g a = some o → o ≠ tab0 → K.lookup a = some o
  no : ∀ P ∈ Ps, K.lookup P = none
theorem part_of {g : Addr → Option Obj} {as Ps : List Addr} (h : ∀ P ∈ Ps, g P = some tab0) : Part (He.frG (gF g Ps) as) g as Ps := by
  refine ⟨fun a o m e n => frG_mem ?_ m, fun P m => ?_⟩
  · unfold gF
    rw [if_neg (fun z => n (Option.some.inj (e.symm.trans (h a z))))]
    exact e
  · cases e : (He.frG (gF g Ps) as).lookup P with
    | none => rfl
    | some o =>
      have z := He.frG_at as e
      unfold gF at z
      rw [if_pos m] at z
      cases z
theorem part_in {h : Heap} {as Ps : List Addr} : (He.frG (gF h.get? Ps) as).In h := fun a o e => by
  have z := He.frG_at as e
  unfold gF at z
  split at z
  · cases z
  · exact z
section
variable {K : PySem.W.Frag} {g : Addr → Option Obj} {as Ps : List Addr}
theorem dict_tab {c : Value} {dd : Option Addr} {es : Array DictEntry} {n : Nat} {sl : Array (Option Value)} : (⟨c, dd, .dict es n, sl⟩ : Obj) ≠ tab0 := fun z => by
  have y := congrArg Obj.data z
  cases y
/-- a namespace that stands in the part -/
theorem ns_at (P : Part K g as Ps) {N : Addr} (m : N ∈ as) (d : isDict g N = true) (x : Str) : PySem.W.nsIn K N x = match (gEs g N).find? (fun e => e.key.isStr x) with
    | some e => some (some e.val)
    | none => if ((gEs g N).any fun e => e.refKey) then none else some none := by
  unfold isDict at d
  unfold gEs
  cases e : g N with
  | none =>
    rw [e] at d
    cases d
  | some o =>
    obtain ⟨c, dd, dt, sl⟩ := o
    rw [e] at d
    cases dt with
    | dict es n =>
      unfold PySem.W.nsIn
      rw [P.at_ N _ m e dict_tab] <;> rfl
    | _ => cases d
theorem ns_none (P : Part K g as Ps) {N : Addr} (m : N ∈ as) (d : isDict g N = true) (r : noRef (gEs g N) = true) {x : Str} (n : noEs (gEs g N) x = true) : PySem.W.nsIn K N x = some none := by
  rw [ns_at P m d]
  unfold noEs at n
  rw [Option.isNone_iff_eq_none.mp n]
  unfold noRef at r
  simp only [Bool.not_eq_true'] at r
  rw [r] <;> rfl
theorem ns_ref (P : Part K g as Ps) {N : Addr} (m : N ∈ as) (d : isDict g N = true) {x : Str} (n : isRef (gEs g N) x = true) : PySem.W.nsIn K N x = some (some (.ref (refIn (gEs g N) x))) := by
  rw [ns_at P m d]
  unfold isRef inEs at n
  unfold refIn inEs
  cases e : (gEs g N).find? (fun e => e.key.isStr x) with
  | none =>
    rw [e] at n
    cases n
  | some en =>
    rw [e] at n
    show some (some en.val) = _
    have n' : (match some en.val with | some (.ref _) => true | _ => false) = true := n
    cases v : en.val with
    | ref a =>
      show _ = some (some (Value.ref (match some en.val with | some (.ref a) => a | _ => 0)))
      rw [v]
    | _ =>
      rw [v] at n'
      cases n'
theorem ga_of {a : Addr} {x : Str} (h : PySem.W.nsIn K mainGlobals x = some (some (.ref a))) : He.ga K x = a := by
  unfold He.ga
  rw [h]
theorem ma_of {a C : Addr} {x : Str} (h : PySem.W.findIn K (.ref C) x = some (some (.ref a))) : He.ma K C x = a := by
  unfold He.ma
  rw [h]
end
/-! ### the built-in tail, once for all -/
theorem tail_any (K : PySem.W.Frag) (x : Str) : PySem.W.alongIn K x eTail = PySem.W.alongIn [] x eTail := rfl
theorem tail_sa : PySem.W.alongIn [] "__setattr__" eTail = some (some (.builtin "object.__setattr__")) := by decide +kernel
theorem tail_ga : PySem.W.alongIn [] "__getattribute__" eTail = some (some (.builtin "BaseException.__getattribute__")) := by decide +kernel
theorem tail_gg : PySem.W.alongIn [] "__getattr__" eTail = some none := by decide +kernel
theorem tail_dc : PySem.W.alongIn [] "__class__" eTail = some (some (.builtin "object.__class__")) := by decide +kernel
theorem tail_in : PySem.W.alongIn [] "__init__" eTail = some (some (.builtin "ValueError.__init__")) := by decide +kernel
theorem tail_fl : ∀ f ∈ flds, PySem.W.alongIn [] f eTail = some none := by decide +kernel
theorem type_call : PySem.W.findIn [] (.type "type") "__call__" = some (some (.builtin "type.__call__")) := by decide +kernel
theorem asked_gs (K : PySem.W.Frag) : PySem.W.specialIn K (.builtin "object.__class__") "__get__" = some (some (.builtin "getset_descriptor.__get__")) := by
  have z : PySem.W.specialIn [] (.builtin "object.__class__") "__get__" = some (some (.builtin "getset_descriptor.__get__")) := by decide +kernel
  exact z
theorem asked_tk (K : PySem.W.Frag) : PySem.W.takesIn K (.builtin "object.__class__") = some true := by
  have z : PySem.W.takesIn [] (.builtin "object.__class__") = some true := by decide +kernel
  exact z
end OE
namespace OE
open PySem PySem.Spec PyProof.Rows L2 LamX
/-! ### one class's facts -/
section
variable {K : PySem.W.Frag} {g : Addr → Option Obj} {as Ps : List Addr} {flds : List Str}
theorem cls_tab {c : Value} {dd : Option Addr} {cd : ClassData} {sl : Array (Option Value)} : (⟨c, dd, .cls cd, sl⟩ : Obj) ≠ tab0 := fun z => by
  have y := congrArg Obj.data z
  cases y
theorem func_tab {c : Value} {dd : Option Addr} {cd : FuncData} {sl : Array (Option Value)} : (⟨c, dd, .func cd, sl⟩ : Obj) ≠ tab0 := fun z => by
  have y := congrArg Obj.data z
  cases y
theorem cell_tab {c : Value} {dd : Option Addr} {v : Option Value} {sl : Array (Option Value)} : (⟨c, dd, .cell v, sl⟩ : Obj) ≠ tab0 := fun z => by
  have y := congrArg Obj.data z
  cases y
theorem fields_tab {c : Value} {dd : Option Addr} {vs : Array Value} {sl : Array (Option Value)} (h : vs ≠ #[]) : (⟨c, dd, .fields vs, sl⟩ : Obj) ≠ tab0 := fun z => by
  have y : Data.fields vs = Data.fields #[] := congrArg Obj.data z
  exact h (Data.fields.inj y)
/-- the base of all errors, in the part -/
structure BaseK (K : PySem.W.Frag) (g : Addr → Option Obj) (flds : List Str) (cE : Addr) : Prop where
  ce : cE = adr g "AddressError"
  cl : ∃ dd cd sl, K.lookup cE = some ⟨.type "type", dd, .cls cd, sl⟩ ∧ cd.name = ("AddressError" : Str) ∧ (∀ x, (x ∈ specials ∨ x = ("__init__" : Str) ∨ x ∈ flds) → PySem.W.nsIn K cd.ns x = some none)
  gl : PySem.W.nsIn K mainGlobals "AddressError" = some (some (.ref cE))
theorem base_ok (P : Part K g as Ps) (mG : mainGlobals ∈ as) (mE : adr g "AddressError" ∈ as) (mN : clNs g (adr g "AddressError") ∈ as) (b : baseD g flds = true) : isDict g mainGlobals = true ∧ noRef (gEs g mainGlobals) = true ∧ BaseK K g flds (adr g "AddressError") := by
  unfold baseD at b
  simp only [Bool.and_eq_true] at b
  obtain ⟨b1, b2, b3, b4⟩ := b
  refine ⟨b1, b2, rfl, ?_, ns_ref P mG b1 b3⟩
  cases e : g (adr g "AddressError") with
  | none =>
    rw [e] at b4
    cases b4
  | some o =>
    rw [e] at b4
    split at b4
    · rename_i dd cd sl e2
      cases e2
      simp only [Bool.and_eq_true, decide_eq_true_eq] at b4
      obtain ⟨c1, c2, c3, c4, c5, c6⟩ := b4
      have eN : clNs g (adr g "AddressError") = cd.ns := by
        unfold clNs
        rw [e]
      rw [eN] at mN
      refine ⟨dd, cd, sl, P.at_ _ _ mE e cls_tab, c1, fun x hx => ns_none P mN c2 c3 ?_⟩
      rcases hx with h | h | h
      · exact List.all_eq_true.mp c4 x h
      · rw [h]
        exact c5
      · exact List.all_eq_true.mp c6 x h
    · cases b4
theorem own_cls {C : Addr} {cd : ClassData} {dd : Option Addr} {c : Value} {sl : Array (Option Value)} (h : K.lookup C = some ⟨c, dd, .cls cd, sl⟩) (x : Str) : PySem.W.ownIn K x (.ref C) = PySem.W.nsIn K cd.ns x := by
  unfold PySem.W.ownIn
  dsimp only
  rw [h]
/-- x looked up on such a class -/
theorem find_of {C cE : Addr} {cd cdE : ClassData} {dd ddE : Option Addr} {c cc : Value} {sl slE : Array (Option Value)} (h : K.lookup C = some ⟨c, dd, .cls cd, sl⟩) (hE : K.lookup cE = some ⟨cc, ddE, .cls cdE, slE⟩) (hm : cd.mro = .ref C :: .ref cE :: eTail) {x : Str}
    (n1 : PySem.W.nsIn K cd.ns x = some none) (n2 : PySem.W.nsIn K cdE.ns x = some none) : PySem.W.findIn K (.ref C) x = PySem.W.alongIn [] x eTail := by
  unfold PySem.W.findIn
  dsimp only
  rw [h]
  show PySem.W.alongIn K x cd.mro = _
  rw [hm]
  unfold PySem.W.alongIn
  rw [own_cls h, n1]
  show PySem.W.alongIn K x (.ref cE :: eTail) = _
  conv => lhs; unfold PySem.W.alongIn
  rw [own_cls hE, n2]
  exact tail_any K x
theorem find_own {C : Addr} {cd : ClassData} {dd : Option Addr} {c v : Value} {sl : Array (Option Value)} {r : List Value} (h : K.lookup C = some ⟨c, dd, .cls cd, sl⟩) (hm : cd.mro = .ref C :: r) {x : Str}
    (n1 : PySem.W.nsIn K cd.ns x = some (some v)) : PySem.W.findIn K (.ref C) x = some (some v) := by
  unfold PySem.W.findIn
  dsimp only
  rw [h]
  show PySem.W.alongIn K x cd.mro = _
  rw [hm]
  unfold PySem.W.alongIn
  rw [own_cls h, n1]
theorem cls_ok' {cE : Addr} (P : Part K g as Ps) (B : BaseK K g flds cE) (mG : mainGlobals ∈ as) (dG : isDict g mainGlobals = true) {r : ClD} (mR : ∀ a ∈ clsAs g r.1, a ∈ as) (hf : ∀ f, r.2.1 = some f → f ∈ flds ∧ PySem.W.alongIn [] f eTail = some none)
    (hnd : (r.1 == ("__debug__" : Str)) = false) {file : Str} (c : clsD g file cE r = true) : ChkC K file cE r ∧ He.ga K r.1 = adr g r.1 ∧ iAt K r.1 = inAd g (adr g r.1) ∧ initO K (iAt K r.1) = initG g (inAd g (adr g r.1)) ∧ ∃ dd cd sl, K.lookup (He.ga K r.1) = some ⟨.type "type", dd, .cls cd, sl⟩ ∧ cd.name = r.1 := by
  obtain ⟨dE, cdE, slE, hE, hnE, noE⟩ := B.cl
  unfold clsD at c
  simp only [Bool.and_eq_true] at c
  obtain ⟨c1, c2⟩ := c
  have gl := ns_ref P mG dG c1
  have eC : He.ga K r.1 = adr g r.1 := ga_of gl
  cases e : g (adr g r.1) with
  | none =>
    rw [e] at c2
    cases c2
  | some o =>
    rw [e] at c2
    split at c2
    · rename_i dd cd sl e2
      cases e2
      simp only [Bool.and_eq_true, Bool.not_eq_true', decide_eq_true_eq] at c2
      obtain ⟨d1, d2, d3, d4, d5, d6⟩ := c2
      have eN : clNs g (adr g r.1) = cd.ns := by
        unfold clNs
        rw [e]
      have eI : inAd g (adr g r.1) = refIn (gEs g cd.ns) "__init__" := by
        unfold inAd
        rw [eN]
      have hC : K.lookup (adr g r.1) = some ⟨.type "type", dd, .cls cd, sl⟩ := P.at_ _ _ (mR _ (by simp [clsAs])) e cls_tab
      have mN : cd.ns ∈ as := mR _ (by rw [← eN]; simp [clsAs])
      unfold nsD at d6
      simp only [Bool.and_eq_true] at d6
      obtain ⟨f1, f2, f3, f4, f5, f6⟩ := d6
      have fin : ∀ x ∈ specials, PySem.W.findIn K (.ref (adr g r.1)) x = PySem.W.alongIn [] x eTail := fun x hx => find_of hC hE d2 (ns_none P mN f1 f2 (List.all_eq_true.mp f3 x hx)) (noE x (.inl hx))
      have gi : PySem.W.findIn K (.ref (adr g r.1)) "__init__" = some (some (.ref (inAd g (adr g r.1)))) := by
        rw [eI]
        exact find_own hC d2 (ns_ref P mN f1 f5)
      have eIA : iAt K r.1 = inAd g (adr g r.1) := by
        unfold iAt
        rw [eC]
        exact ma_of gi
      -- the function
      rw [← eI] at f6
      unfold fnD at f6
      cases e3 : g (inAd g (adr g r.1)) with
      | none =>
        rw [e3] at f6
        cases f6
      | some oF =>
        rw [e3] at f6
        split at f6
        · rename_i ddF fd slF e4
          cases e4
          have hF : K.lookup (inAd g (adr g r.1)) = some ⟨.type "function", ddF, .func fd, slF⟩ := P.at_ _ _ (mR _ (by simp [clsAs])) e3 func_tab
          simp only [Bool.and_eq_true] at f6
          obtain ⟨h1, h2⟩ := f6
          have ini : initShape K file (adr g r.1) (inAd g (adr g r.1)) = true := by
            unfold initShape
            rw [hF]
            show ((match fd.code with
              | .ref cda => PySem.W.codeIn K (.ref cda) fd.qualname && fileIs K file cda
              | _ => false) && cellIs K (adr g r.1) fd.closure) = true
            rw [Bool.and_eq_true]
            constructor
            · split at h1
              · rename_i cda ec
                have ecd : fnCd g (inAd g (adr g r.1)) = cda := by
                  unfold fnCd
                  rw [e3]
                  show (match fd.code with | .ref c => c | _ => 0) = cda
                  rw [ec]
                unfold codeD at h1
                cases e5 : g cda with
                | none =>
                  rw [e5] at h1
                  cases h1
                | some oc =>
                  rw [e5] at h1
                  split at h1
                  · rename_i c5 d5' vs s5 e6
                    cases e6
                    split at h1
                    · rename_i v0 n t1 z t2 rest ev
                      simp only [Bool.and_eq_true] at h1
                      have hcd : K.lookup cda = some ⟨c5, d5', .fields vs, s5⟩ := P.at_ _ _ (mR _ (by rw [← ecd]; simp [clsAs])) e5 (fields_tab fun q => by rw [q] at ev; cases ev)
                      have g1 : PySem.W.codeIn K (.ref cda) fd.qualname = true := by
                        unfold PySem.W.codeIn
                        dsimp only
                        rw [hcd]
                        show (match vs.toList with | _ :: .str n _ :: _ => n == fd.qualname | _ => false) = true
                        rw [ev]
                        exact h1.1
                      have v2 : (vs[2]? : Option Value) = some (.str z t2) := by
                        rw [← Array.getElem?_toList, ev] <;> rfl
                      have g2 : fileIs K file cda = true := by
                        unfold fileIs
                        rw [hcd]
                        show (match (vs[2]? : Option Value) with | some (.str z _) => file == z | _ => false) = true
                        rw [v2]
                        exact h1.2
                      try rw [ec]
                      show (PySem.W.codeIn K (.ref cda) fd.qualname && fileIs K file cda) = true
                      rw [g1, g2] <;> rfl
                    · cases h1
                  · cases h1
              · cases h1
            · split at h2
              · rename_i x cc el
                have ecl : fnCl g (inAd g (adr g r.1)) = cc := by
                  unfold fnCl
                  rw [e3]
                  show (match fd.closure with | [(_, c)] => c | _ => 0) = cc
                  rw [el]
                unfold cellD at h2
                cases e5 : g cc with
                | none =>
                  rw [e5] at h2
                  cases h2
                | some oc =>
                  rw [e5] at h2
                  split at h2
                  · rename_i c5 d5' C' s5 e6
                    cases e6
                    have hcc : K.lookup cc = some ⟨c5, d5', .cell (some (.ref C')), s5⟩ := P.at_ _ _ (mR _ (by rw [← ecl]; simp [clsAs])) e5 cell_tab
                    try rw [el]
                    unfold cellIs
                    show (match K.lookup cc with | some ⟨_, _, .cell (some (.ref C')), _⟩ => C' == adr g r.1 | _ => false) = true
                    rw [hcc]
                    exact h2
                  · cases h2
              · cases h2
          have shp : clsShape K (adr g r.1) cE = true := by
            unfold clsShape
            rw [hC]
            show (decide (cd.mro = .ref (adr g r.1) :: .ref cE :: eTail) && (cd.hasDict && (!cd.hasDel && newIs sl.toList))) = true
            rw [decide_eq_true d2, d3, d4, d5] <;> rfl
          have kp : PySem.W.keepIn K (.ref (adr g r.1)) = true := by
            unfold PySem.W.keepIn
            dsimp only
            rw [hC]
            show (PySem.W.specialIn K (.ref (adr g r.1)) "__call__" == some (some (.builtin "type.__call__"))) = true
            have ty : PySem.W.typeIn K (.ref (adr g r.1)) = some (.type "type") := (cls_isSome (shape_ok shp)).2
            have sp : PySem.W.specialIn K (.ref (adr g r.1)) "__call__" = some (some (.builtin "type.__call__")) := by
              unfold PySem.W.specialIn
              rw [ty]
              exact type_call
            rw [sp] <;> rfl
          have sup : PySem.W.ks_superIn K (adr g r.1) (adr g r.1) "__init__" = some (some (.builtin "ValueError.__init__")) := by
            unfold PySem.W.ks_superIn PySem.W.clsIn
            rw [hC]
            show PySem.W.alongIn K "__init__" ((cd.mro.dropWhile (· != .ref (adr g r.1))).drop 1) = _
            rw [d2]
            have z : ((Value.ref (adr g r.1) :: .ref cE :: eTail).dropWhile (· != .ref (adr g r.1))).drop 1 = .ref cE :: eTail := by simp [List.dropWhile_cons]
            rw [z]
            conv => lhs; unfold PySem.W.alongIn
            rw [own_cls hE, noE "__init__" (.inr (.inl rfl))]
            exact (tail_any K "__init__").trans tail_in
          have exi : PySem.W.excInitIn K (adr g r.1) eTail "ValueError.__new__" = true := by
            obtain ⟨nm, q, N, bs, sn, sub, ab, col, dd', k0, k1, k2, k3, k5, es⟩ := shape_ok shp
            unfold PySem.W.excInitIn
            rw [es]
            simp [PySem.W.excTail]
            decide +kernel
          have sE : PySem.W.subIn K (.ref (adr g r.1)) (.type "BaseException") = some true := by
            show PySem.W.mroIn K (adr g r.1) (.type "BaseException") = _
            rw [mro_of (shape_ok shp), has_ty "BaseException" (by decide +kernel)]
          have hdd : PySem.W.hasDictIn K (adr g r.1) = true := by
            unfold PySem.W.hasDictIn PySem.W.clsIn
            rw [hC]
            exact d3
          have xf : xfB K (adr g r.1) = true := by
            unfold xfB
            rw [decide_eq_true ((fin "__getattribute__" (by decide +kernel)).trans tail_ga), decide_eq_true ((fin "__getattr__" (by decide +kernel)).trans tail_gg), decide_eq_true sE, hdd] <;> rfl
          have nf : noF K (adr g r.1) r.2.1 = true := by
            unfold noF
            cases er : r.2.1 with
            | none => rfl
            | some f =>
              obtain ⟨m1, m2⟩ := hf f er
              have n1 : noEs (gEs g cd.ns) f = true := by
                rw [er] at f4
                exact List.all_eq_true.mp f4 f (by simp [foNames])
              have z := find_of hC hE d2 (ns_none P mN f1 f2 n1) (noE f (.inr (.inr m1)))
              exact decide_eq_true (z.trans m2)
          refine ⟨?_, eC, eIA, ?_, dd, cd, sl, by rw [eC]; exact hC, d1⟩
          · constructor
            · rw [eC]; exact shp
            · rw [eC]; exact kp
            · rw [eC]; exact (fin "__setattr__" (by decide +kernel)).trans tail_sa
            · rw [eC]; exact nf
            · rw [eC, eIA]; exact gi
            · rw [eIA]
              show (K.lookup (inAd g (adr g r.1))).map (·.cls) = _
              rw [hF] <;> rfl
            · rw [eC]; exact sup
            · rw [eC]; exact exi
            · rw [eC]; exact xf
            · rw [eC]; exact (fin "__class__" (by decide +kernel)).trans tail_dc
            · rw [eC, eIA]; exact ini
            · rw [eC]; exact gl
            · exact hnd
          · rw [eIA]
            unfold initO initG
            rw [hF, e3]
        · cases f6
    · cases c2
end
end OE
namespace OE
open PySem PySem.Spec PyProof.Rows L2 LamX
/-! ### what the hook says -/
def cEof (K : PySem.W.Frag) : Addr := He.ga K "AddressError"
structure SaysK (K : PySem.W.Frag) (h : Heap) : Prop where
  cls : ∀ r ∈ clsAll, ChkC K file (cEof K) r ∧ initO K (iAt K r.1) = initV (cInit r) ∧ ∃ dd cd sl, K.lookup (He.ga K r.1) = some ⟨.type "type", dd, .cls cd, sl⟩ ∧ cd.name = r.1
  base : ∃ dd cd sl, K.lookup (cEof K) = some ⟨.type "type", dd, .cls cd, sl⟩ ∧ cd.name = ("AddressError" : Str)
  gE : PySem.W.nsIn K mainGlobals "AddressError" = some (some (.ref (cEof K)))
  opq : PySem.W.nsIn K cStatics "thirdparty.any" = some none
  free : ∀ x ∈ frees, PySem.W.nsIn K mainGlobals x = some none
  fn : ∀ p ∈ lawFns, PySem.W.nsIn K mainGlobals p.1 = some (some (.ref (He.ga K p.1))) ∧ ∃ oc od osl kV doc pm an cdv ct, K.lookup (He.ga K p.1) = some ⟨oc, od, .func (PySem.W.fnOf p.1 p.1 (defArgs (OA.top p.2)) (defBody (OA.top p.2)) (defScope (OA.top p.2)) .none kV doc pm an cdv ct), osl⟩ ∧ PySem.W.codeIn K cdv p.1 = true
  tab : ∃ tb : Str → Addr × Addr, (∀ x ∈ tabs, PySem.W.codeHdIn K (tb x).1 (tb x).2 = true ∧ K.lookup (tb x).2 = none ∧ h.get? (tb x).2 = some tab0 ∧ ∃ oc od fd sl, K.lookup (He.ga K x) = some ⟨oc, od, .func fd, sl⟩ ∧ fd.code = .ref (tb x).1) ∧ (tabs.map fun x => (tb x).2).Nodup
theorem SaysK.keeps {K : PySem.W.Frag} {h h' : Heap} (s : SaysK K h) (k : ∀ b o, h.get? b = some o → h'.get? b = some o) : SaysK K h' := by
  obtain ⟨tb, t, n⟩ := s.tab
  exact ⟨s.cls, s.base, s.gE, s.opq, s.free, s.fn, tb, fun x m => ⟨(t x m).1, (t x m).2.1, k _ _ (t x m).2.2.1, (t x m).2.2.2⟩, n⟩
def asAll (g : Addr → Option Obj) : List Addr := mainGlobals :: cStatics :: ((lawFns.map (·.1)).flatMap (fnAs g) ++ (adr g "AddressError" :: clNs g (adr g "AddressError") :: clsAll.flatMap fun r => clsAs g r.1))
def PsAll (g : Addr → Option Obj) : List Addr := tabs.map fun x => tabOf g (fnCd g (adr g x))
theorem names_ok : ∀ r ∈ clsAll, (r.1 == ("__debug__" : Str)) = false ∧ ∀ f, r.2.1 = some f → f ∈ flds := by
  have h : (clsAll.all fun r => !(r.1 == ("__debug__" : Str)) && (match r.2.1 with | some f => decide (f ∈ flds) | none => true)) = true := by decide +kernel
  intro r m
  have z := List.all_eq_true.mp h r m
  simp only [Bool.and_eq_true, Bool.not_eq_true'] at z
  refine ⟨z.1, fun f e => ?_⟩
  have y := z.2
  rw [e] at y
  exact of_decide_eq_true y
theorem tabs_fns : ∀ x ∈ tabs, x ∈ lawFns.map (·.1) := by decide +kernel
theorem tabD_ok {g : Addr → Option Obj} {x : Str} (t : tabD g x = true) : g (tabOf g (fnCd g (adr g x))) = some tab0 ∧ ∃ dd vs sl, g (fnCd g (adr g x)) = some ⟨.type "code", dd, .fields vs, sl⟩ ∧ ((match (vs[11]? : Option Value) with | some (.ref P') => P' == tabOf g (fnCd g (adr g x)) | _ => false) && ((match vs.getD 18 .none with | .str _ _ => true | _ => false) && ((match vs.getD 7 .none with | .int _ _ => true | _ => false) &&
      ((match vs.getD 9 .none with | .bool _ => true | _ => false) && ((match vs.getD 10 .none with | .int _ _ => true | _ => false) && fnCd g (adr g x) != tabOf g (fnCd g (adr g x))))))) = true := by
  unfold tabD at t
  dsimp only at t
  rw [Bool.and_eq_true] at t
  obtain ⟨t1, t2⟩ := t
  constructor
  · split at t2
    · rename_i vs sl e
      simp only [Bool.and_eq_true] at t2
      have e1 : vs = #[] := by simpa using t2.1
      have e2 : sl = #[] := by simpa using t2.2
      rw [e, e1, e2] <;> rfl
    · cases t2
  · split at t1
    · rename_i dd vs sl e
      exact ⟨dd, vs, sl, e, t1⟩
    · cases t1
theorem says_of {h : Heap} (a : hookA lawFns frees tabs flds h.get? = vA) (b : ∀ r ∈ clsAll, clsD h.get? file (adr h.get? "AddressError") r = true ∧ initG h.get? (inAd h.get? (adr h.get? r.1)) = initV (cInit r)) : ∃ K : PySem.W.Frag, K.In h ∧ SaysK K h := by
  have a1 : (baseD h.get? flds && (statD h.get? && ((frees.all fun x => noEs (gEs h.get? mainGlobals) x) && ((lawFns.all fun x => lawD h.get? x.1) && ((tabs.all fun x => tabD h.get? x) && tabsApart tabs h.get?))))) = true := congrArg (fun z : Bool × List FnV2 => z.1) a
  have a2 : (lawFns.map fun x => lawG h.get? (adr h.get? x.1)) = lawFns.map fun x => lawV x.1 (OA.top x.2) := congrArg (fun z : Bool × List FnV2 => z.2) a
  simp only [Bool.and_eq_true] at a1
  obtain ⟨b1, b2, b3, b4, b5, b6⟩ := a1
  have hPs : ∀ P ∈ PsAll h.get?, h.get? P = some tab0 := fun P m => by
    obtain ⟨x, mx, rfl⟩ := List.mem_map.mp m
    exact (tabD_ok (List.all_eq_true.mp b5 x mx)).1
  have P := part_of (g := h.get?) (as := asAll h.get?) (Ps := PsAll h.get?) hPs
  generalize hK : He.frG (gF h.get? (PsAll h.get?)) (asAll h.get?) = K at P
  have KI : K.In h := by
    rw [← hK]
    exact part_in
  have mG : mainGlobals ∈ asAll h.get? := List.mem_cons_self ..
  have mS : cStatics ∈ asAll h.get? := List.mem_cons_of_mem _ (List.mem_cons_self ..)
  have mE : adr h.get? "AddressError" ∈ asAll h.get? := by simp [asAll]
  have mN : clNs h.get? (adr h.get? "AddressError") ∈ asAll h.get? := by simp [asAll]
  have mF : ∀ p ∈ lawFns, ∀ x ∈ fnAs h.get? p.1, x ∈ asAll h.get? := fun p mp x mx => List.mem_cons_of_mem _ (List.mem_cons_of_mem _ (List.mem_append_left _ (List.mem_flatMap.mpr ⟨p.1, List.mem_map.mpr ⟨p, mp, rfl⟩, mx⟩)))
  have mC : ∀ r ∈ clsAll, ∀ x ∈ clsAs h.get? r.1, x ∈ asAll h.get? := fun r mr x mx => List.mem_cons_of_mem _ (List.mem_cons_of_mem _ (List.mem_append_right _ (List.mem_cons_of_mem _ (List.mem_cons_of_mem _ (List.mem_flatMap.mpr ⟨r, mr, mx⟩)))))
  obtain ⟨dG, rG, B⟩ := base_ok P mG mE mN b1
  have eE : cEof K = adr h.get? "AddressError" := ga_of B.gl
  have cls : ∀ r ∈ clsAll, _ := fun r mr => cls_ok' P B mG dG (r := r) (mC r mr) (fun f e => ⟨(names_ok r mr).2 f e, tail_fl f ((names_ok r mr).2 f e)⟩) (names_ok r mr).1 (b r mr).1
  have fnG : ∀ p ∈ lawFns, PySem.W.nsIn K mainGlobals p.1 = some (some (.ref (adr h.get? p.1))) := fun p mp => by
    have z := List.all_eq_true.mp b4 p mp
    unfold lawD at z
    rw [Bool.and_eq_true] at z
    exact ns_ref P mG dG z.1
  refine ⟨K, KI, fun r mr => ?_, ?_, ?_, ?_, fun x mx => ns_none P mG dG rG (List.all_eq_true.mp b3 x mx), fun p mp => ?_, ?_⟩
  · obtain ⟨k1, k2, k3, k4, k5⟩ := cls r mr
    rw [eE]
    exact ⟨k1, k4.trans (b r mr).2, k5⟩
  · obtain ⟨dd, cd, sl, e, n, _⟩ := B.cl
    rw [eE]
    exact ⟨dd, cd, sl, e, n⟩
  · rw [eE]
    exact B.gl
  · unfold statD at b2
    simp only [Bool.and_eq_true] at b2
    exact ns_none P mS b2.1 b2.2.1 b2.2.2
  · have z := List.all_eq_true.mp b4 p mp
    unfold lawD at z
    rw [Bool.and_eq_true] at z
    have eA : He.ga K p.1 = adr h.get? p.1 := ga_of (fnG p mp)
    rw [eA]
    refine ⟨fnG p mp, ?_⟩
    have o : lawG h.get? (adr h.get? p.1) = lawV p.1 (OA.top p.2) := List.map_inj_left.mp a2 p mp
    obtain ⟨z1, z2⟩ := z
    unfold lawG at o
    cases e : h.get? (adr h.get? p.1) with
    | none =>
      rw [e] at z2
      cases z2
    | some ob =>
      obtain ⟨oc, od, dt, osl⟩ := ob
      rw [e] at z2 o
      cases dt with
      | func fd =>
        have hL := P.at_ _ _ (mF p mp (adr h.get? p.1) (by simp [fnAs])) e func_tab
        have z2' : (match fd.code with | .ref c => codeQ h.get? p.1 c | _ => false) = true := z2
        obtain ⟨n1, n2, n3, n4, n5, n6, n7, n8, n9, n10, n11, n12, n13, n14, n15⟩ := fd
        have o2 : (some (n1, n2, n3, n4, n5, n6, n7, n8, n15) : FnV2) = lawV p.1 (OA.top p.2) := o
        unfold lawV at o2
        simp only [Option.some.injEq, Prod.mk.injEq] at o2
        obtain ⟨o1, o2, o3, o4, o5, o6, o7, o8, o9⟩ := o2
        subst o1 o2 o3 o4 o5 o6 o7 o8 o9
        dsimp only at z2'
        split at z2'
        · rename_i c
          refine ⟨oc, od, osl, n9, n10, n11, n12, .ref c, n14, hL, ?_⟩
          unfold codeQ at z2'
          cases e5 : h.get? c with
          | none =>
            rw [e5] at z2'
            cases z2'
          | some o5 =>
            rw [e5] at z2'
            split at z2'
            · rename_i c5 d5 vs s5 e6
              cases e6
              split at z2'
              · rename_i v0 n t1 rest ev
                have ec : fnCd h.get? (adr h.get? p.1) = c := by
                  unfold fnCd
                  rw [e]
                have hc := P.at_ c _ (mF p mp c (by rw [← ec]; simp [fnAs])) e5 (fields_tab fun q => by rw [q] at ev; cases ev)
                unfold PySem.W.codeIn
                dsimp only
                rw [hc]
                show (match vs.toList with | _ :: .str n _ :: _ => n == p.1 | _ => false) = true
                rw [ev]
                exact z2'
              · cases z2'
            · cases z2'
        · cases z2'
      | _ => cases z2
  · refine ⟨fun x => (fnCd h.get? (adr h.get? x), tabOf h.get? (fnCd h.get? (adr h.get? x))), fun x mx => ?_, of_decide_eq_true b6⟩
    obtain ⟨p, mp, rfl⟩ := List.mem_map.mp (tabs_fns x mx)
    obtain ⟨t1, dd, vs, sl, e, t2⟩ := tabD_ok (List.all_eq_true.mp b5 p.1 mx)
    have vne : vs ≠ #[] := fun q => by
      rw [q] at t2
      simp at t2
    have hc := P.at_ _ _ (mF p mp (fnCd h.get? (adr h.get? p.1)) (by simp [fnAs])) e (fields_tab vne)
    refine ⟨?_, P.no _ (List.mem_map.mpr ⟨p.1, mx, rfl⟩), t1, ?_⟩
    · unfold PySem.W.codeHdIn
      dsimp only
      rw [hc]
      simp only [Bool.and_eq_true] at t2 ⊢
      obtain ⟨u1, u2, u3, u4, u5, u6⟩ := t2
      exact ⟨⟨⟨⟨⟨u1, u2⟩, u3⟩, u4⟩, u5⟩, u6⟩
    · have z := List.all_eq_true.mp b4 p mp
      unfold lawD at z
      rw [Bool.and_eq_true] at z
      obtain ⟨z1, z2⟩ := z
      rw [ga_of (fnG p mp)]
      cases e7 : h.get? (adr h.get? p.1) with
      | none =>
        rw [e7] at z2
        cases z2
      | some ob =>
        obtain ⟨oc, od, dt, osl⟩ := ob
        rw [e7] at z2
        cases dt with
        | func fd =>
          have hL := P.at_ _ _ (mF p mp (adr h.get? p.1) (by simp [fnAs])) e7 func_tab
          refine ⟨oc, od, fd, osl, hL, ?_⟩
          have z2' : (match fd.code with | .ref c => codeQ h.get? p.1 c | _ => false) = true := z2
          show fd.code = .ref (fnCd h.get? (adr h.get? p.1))
          unfold fnCd
          rw [e7]
          split at z2'
          · rename_i c ec
            show fd.code = .ref (match fd.code with | .ref c => c | _ => 0)
            rw [ec]
          · cases z2'
        | _ => cases z2
end OE
namespace OE
open PySem PySem.Spec PyProof.Rows L2 LamX
/-! ### the law called by the outermost caller: the script and the tables are ours -/
theorem data_ne {o o' : Obj} (h : o.data ≠ o'.data) : o ≠ o' := fun z => h (congrArg Obj.data z)
theorem law_at {P : Program} {w : World} {K : PySem.W.Frag} {mg mb : Str → Option Value} {fa a : Addr} {cs : List (Addr × Addr)} {s₁ : Shared} {vs : List Value} {ns : List Int}
    (KX : K.In s₁.heap) (nG : s₁.heap.Ns mainGlobals mg) (nB : s₁.heap.Ns builtinsNs mb) (hB : ∀ x : Str, x ≠ "__name__" → mb x = bootBuiltins x) (lim : s₁.heap.NoLimit) (ge : s₁.gens = #[])
    (tT : ∀ p ∈ cs, s₁.heap.get? p.2 = some tab0) (tK : ∀ p ∈ cs, K.lookup p.2 = none) (tC : ∀ p ∈ cs, PySem.W.CodeHd s₁.heap p.1 p.2)
    (bm : ∃ (m : Addr) (ob : Obj), mg "__builtins__" = some (.ref m) ∧ m ≠ builtinsNs ∧ s₁.heap.get? m = some ob ∧ ob.cls = .type "module" ∧ ob.dict = some builtinsNs ∧ ob.data = .plain)
    (ga : s₁.heap.get? a = some { cls := .type "list", data := .seq vs.toArray }) (iv : IntsAre vs ns) (hl : ns.length ≤ sizeLine)
    (run : ∀ (base : Heap) (H : Hp), K.In base → base.Ns mainGlobals mg → (∀ p ∈ cs, TabB base mg p.1 p.2) → (∀ p ∈ cs, H p.2 = some (.tbl #[])) → SqL K H a (ns.map V.int) → Env0 P w K mg base callerA [] s₁ H →
      codeAny (model P w) callerA (.call (.ref fa) ⟨[.ref a], []⟩) (CR CX0 [] P w H s₁ (fun v _ => v = .bl true) (fun _ _ _ => False)) s₁) :
    codeAny (model P w) callerA (.call (.ref fa) ⟨[.ref a], []⟩) (fun r s' => r = .ok (.ret (.bool true)) ∧ OldK s₁.heap s'.heap ∧ s'.os = s₁.os ∧ AllBare s'.gens) s₁ := by
  have rv := vals_ints iv
  have lv := iv.length
  -- what is hidden
  let own : Prop := K.lookup a = none
  let tb := cs.map (·.2)
  have inT : ∀ p ∈ cs, p.2 ∈ tb := fun p m => List.mem_map.mpr ⟨p, m, rfl⟩
  have ofT : ∀ b ∈ tb, s₁.heap.get? b = some tab0 ∧ K.lookup b = none := fun b m => by
    obtain ⟨p, mp, e⟩ := List.mem_map.mp m
    rw [← e]
    exact ⟨tT p mp, tK p mp⟩
  have aT : a ∉ tb := fun z => by
    have q := (ofT a z).1
    rw [ga] at q
    exact data_ne (fun y => by cases y) (Option.some.inj q)
  have main : ∀ (hid : List Addr) (H : Hp), (∀ b, H b ≠ none ↔ b ∈ hid) → (∀ b ∈ hid, b = a ∨ b ∈ tb) → (∀ b ∈ hid, K.lookup b = none) → (∀ p ∈ cs, H p.2 = some (.tbl #[])) → (∀ b, H b = none ∨ (b ∈ tb ∧ H b = some (.tbl #[])) ∨ (b ∉ tb ∧ ∃ o xs, H b = some (.frz o (.lst xs)))) →
      SqL K H a (ns.map V.int) → HOk P w H s₁.heap → codeAny (model P w) callerA (.call (.ref fa) ⟨[.ref a], []⟩) (fun r s' => r = .ok (.ret (.bool true)) ∧ OldK s₁.heap s'.heap ∧ s'.os = s₁.os ∧ AllBare s'.gens) s₁ := by
    intro hid H hH hab hKn hTb hAll hS hok
    have get : ∀ {b : Addr} {o : Obj}, s₁.heap.get? b = some o → b ∉ hid → (PySem.W.hideAll s₁.heap hid).get? b = some o := fun e n => PySem.W.hideAll_get _ e n
    have other : ∀ {b : Addr} {o : Obj}, s₁.heap.get? b = some o → (∀ x n, o.data ≠ .seq x n) → o.data ≠ .fields #[] → b ∉ hid := fun {b o} e n1 n2 m => by
      rcases hab b m with z | z
      · rw [z, ga] at e
        cases e
        exact n1 _ _ rfl
      · rw [(ofT b z).1] at e
        cases e
        exact n2 rfl
    have nsH : ∀ {b : Addr} {m : Str → Option Value}, s₁.heap.Ns b m → (PySem.W.hideAll s₁.heap hid).Ns b m := fun {b m} ⟨o, es, ep, e, d, r⟩ => ⟨o, es, ep, get e (other e (fun x n z => by rw [d] at z; cases z) (fun z => by rw [d] at z; cases z)), d, r⟩
    have KB : K.In (PySem.W.hideAll s₁.heap hid) := fun b o e => get (KX b o e) fun m => by
      rw [hKn b m] at e
      cases e
    have M : L2.Mod K mg (PySem.W.hideAll s₁.heap hid) := ⟨KB, nsH nG, ⟨mb, nsH nB, hB⟩, let ⟨mc, h1, h2⟩ := lim; ⟨mc, nsH h1, h2⟩⟩
    have TB : ∀ p ∈ cs, TabB (PySem.W.hideAll s₁.heap hid) mg p.1 p.2 := fun p mp => by
      refine ⟨?_, ?_, fun z => ?_⟩
      · obtain ⟨o, us, f1, f2, f3, f4, f5, f6, f7, e1, r1, r2, r3, rest⟩ := tC p mp
        refine ⟨o, us, f1, f2, f3, f4, f5, f6, f7, get e1 (other e1 (fun x n z => ?_) fun z => ?_), r1, r2, r3, rest⟩
        · rw [r2] at z
          cases z
        · rw [r2] at z
          have y := Data.fields.inj z
          rw [y] at r3
          simp at r3
      · obtain ⟨m, ob, c1, c2, c3, c4, c5, c6⟩ := bm
        have n1 : m ≠ mainGlobals := fun q => by
          obtain ⟨o, es, ep, e, d, _⟩ := nG
          rw [q, e] at c3
          cases c3
          rw [d] at c6
          cases c6
        have n2 : m ≠ p.2 := fun q => by
          rw [q, tT p mp] at c3
          cases c3
          cases c6
        exact ⟨m, ob, c1, c2, n1, n2, get c3 (other c3 (fun x n z => by rw [c6] at z; cases z) (fun z => by rw [c6] at z; cases z)), c4, c5, c6⟩
      · obtain ⟨o, es, ep, e, d, _⟩ := nG
        rw [z, tT p mp] at e
        cases e
        cases d
    have hN : ∀ b o, (PySem.W.hideAll s₁.heap hid).get? b = some o → s₁.heap.get? b = some o ∧ H b = none := fun b o e => by
      refine ⟨PySem.W.of_hideAll _ e, ?_⟩
      cases q : H b with
      | none => rfl
      | some u =>
        have m : b ∈ hid := (hH b).mp (by rw [q]; simp)
        rw [PySem.W.hideAll_none _ m] at e
        cases e
    have e0 : Env0 P w K mg (PySem.W.hideAll s₁.heap hid) callerA [] s₁ H := ⟨rfl, M, hN, Nat.le_of_eq (PySem.W.hideAll_size _ _), trivial, fun b hb => absurd (show b ∈ ([] : List Addr) from hb) (by simp), hok, .of_eq ge⟩
    refine codeAny_mono (run _ H KB (nsH nG) TB hTb hS e0) fun r s' z => ?_
    cases r with
    | error e => exact (show False from z).elim
    | ok fl =>
      cases fl with
      | next => exact False.elim z
      | brk => exact False.elim z
      | cont => exact False.elim z
      | ret u =>
        obtain ⟨v, H', os, bare, un, hok', rr, q⟩ := z
        have q' : v = .bl true := q
        subst q'
        obtain rfl : u = Value.bool true := rr
        have stays : ∀ b o, b ∉ tb → s₁.heap.get? b = some o → s'.heap.get? b = some o := fun b o nb e => by
          rcases hAll b with y | y | ⟨_, ob, xs, y⟩
          · exact un.keep b o e y (fun z => absurd (show b ∈ ([] : List Addr) from z) (by simp)) (by simp)
          · exact absurd y.1 nb
          · obtain ⟨d1, _⟩ := hok b _ y
            obtain ⟨d2, _⟩ := hok' b _ (un.frzs b ob _ y)
            rw [e] at d1
            cases d1
            exact d2
        have grow : ∀ p ∈ cs, ∃ more : Array Value, s'.heap.get? p.2 = some { cls := .none, data := .fields more } := fun p mp => by
          obtain ⟨more, y⟩ := un.tbls p.2 #[] (hTb p mp)
          exact ⟨_, hok' p.2 _ y⟩
        refine ⟨rfl, ⟨fun b o e => ?_, fun b o e => ?_⟩, os, bare⟩
        · by_cases hb : b ∈ tb
          · obtain ⟨p, mp, ep⟩ := List.mem_map.mp hb
            obtain ⟨more, gm⟩ := grow p mp
            rw [← ep] at e ⊢
            rw [tT p mp] at e
            cases e
            exact .inr (.inl ⟨((tC p mp).tab (tT p mp)).isCodeTable, rfl, #[], more, rfl, by rw [Array.empty_append]; exact gm⟩)
          · exact .inl (stays b o hb e)
        · by_cases hb : b ∈ tb
          · obtain ⟨p, mp, ep⟩ := List.mem_map.mp hb
            obtain ⟨more, gm⟩ := grow p mp
            rw [← ep]
            exact ⟨_, gm⟩
          · exact ⟨o, stays b o hb e⟩
  cases hk : K.lookup a with
  | some o =>
    have e := KX a o hk
    rw [ga] at e
    cases e
    refine main tb (fun b => if b ∈ tb then some (.tbl #[]) else none) (fun b => ?_) (fun b m => .inr m) (fun b m => (ofT b m).2) (fun p mp => if_pos (inT p mp)) (fun b => ?_) (.inr ⟨_, vs.toArray, _, hk, rfl, rfl, rfl, by rw [List.size_toArray, lv]; exact hl, by simpa using rv⟩) (fun b u z => ?_)
    · by_cases hb : b ∈ tb <;> simp [hb]
    · by_cases hb : b ∈ tb
      · exact .inr (.inl ⟨hb, if_pos hb⟩)
      · exact .inl (if_neg hb)
    · by_cases hb : b ∈ tb
      · have y := (if_pos hb).symm.trans z
        cases y
        exact (ofT b hb).1
      · have y := (if_neg hb).symm.trans z
        cases y
  | none =>
    refine main (a :: tb) (fun b => if b = a then some (.frz { cls := .type "list", data := .seq vs.toArray } (.lst (ns.map V.int))) else if b ∈ tb then some (.tbl #[]) else none) (fun b => ?_) (fun b m => ?_) (fun b m => ?_) (fun p mp => ?_) (fun b => ?_) (.inl (.inr ⟨_, if_pos rfl⟩)) (fun b u z => ?_)
    · by_cases h1 : b = a
      · simp [h1]
      · by_cases h2 : b ∈ tb <;> simp [h1, h2]
    · rcases List.mem_cons.mp m with y | y
      · exact .inl y
      · exact .inr y
    · rcases List.mem_cons.mp m with y | y
      · rw [y]
        exact hk
      · exact (ofT b y).2
    · have ne : p.2 ≠ a := fun y => aT (by rw [← y]; exact inT p mp)
      show (if p.2 = a then _ else _) = _
      rw [if_neg ne, if_pos (inT p mp)]
    · by_cases h1 : b = a
      · exact .inr (.inr ⟨by rw [h1]; exact aT, _, _, if_pos h1⟩)
      · by_cases h2 : b ∈ tb
        · exact .inr (.inl ⟨h2, (if_neg h1).trans (if_pos h2)⟩)
        · exact .inl ((if_neg h1).trans (if_neg h2))
    · by_cases h1 : b = a
      · have y := (if_pos h1).symm.trans z
        cases y
        rw [h1]
        exact ⟨ga, by rw [List.length_map]; exact hl, vs, _, rv, ga⟩
      · have y1 := (if_neg h1).symm.trans z
        by_cases h2 : b ∈ tb
        · have y := (if_pos h2).symm.trans y1
          cases y
          exact (ofT b h2).1
        · have y := (if_neg h2).symm.trans y1
          cases y
end OE
namespace OE
open PySem PySem.Spec PyProof.Rows L2 LamX
/-! ### the law's defs keep their promises -/
theorem Says_fun {K : PySem.W.Frag} {h : Heap} (s : SaysK K h) {x : Str} {i : Nat} (m : (x, i) ∈ lawFns) : ∃ fd, Fun K x x (OA.top i) (He.ga K x) fd := by
  obtain ⟨_, oc, od, osl, kV, doc, pm, an, cdv, ct, lk, hcd⟩ := s.fn _ m
  refine ⟨_, fun_mk lk hcd ?_⟩
  unfold PySem.W.keepIn
  dsimp only
  rw [lk]
def rsOf (K : PySem.W.Frag) (cls : List ClD) : List Row := cls.map fun r => (He.ga K r.1, r.2.1)
section
variable {P : Program} {w : World} {K : PySem.W.Frag} {mg : Str → Option Value} {base h : Heap} {T : List (Addr × Str)}
theorem rowStms_of {X : Cx} {c Pt : Addr} {k : Nat} (M : MadeX X T c Pt k) : ∀ {cls : List ClD} {ss : List Stmt}, AreRows (cls.map fun r => (r.1, r.2.1)) ss → (∀ r ∈ cls, RowK X.prog X.K X.mg r.1 r.2.1 (He.ga X.K r.1) (iAt X.K r.1)) → (∀ r ∈ cls, Gl X r.1) → RowStms X T ss (rsOf X.K cls)
  | [], _, .nil, _, _ => .nil
  | r :: cls, _, .cons a b, hk, hg => .cons (row_any M (hk r (List.mem_cons_self ..)) a (hg r (List.mem_cons_self ..))) (rowStms_of M b (fun q m => hk q (List.mem_cons_of_mem _ m)) fun q m => hg q (List.mem_cons_of_mem _ m))
theorem rowK_all {h2 : Heap} (hP : file = P.main.file) (X : K.In h2) (G : h2.Ns mainGlobals mg) (s : SaysK K h) : ∀ (cls : List ClD), (∀ r ∈ cls, r ∈ clsAll) → AreInits cls → AreFos cls → ∀ r ∈ cls, RowK P K mg r.1 r.2.1 (He.ga K r.1) (iAt K r.1)
  | [], _, _, _, r, m => absurd m (by simp)
  | q :: cls, hm, .cons i1 i2, .cons f1 f2, r, m => by
    rcases List.mem_cons.mp m with e | m
    · subst e
      obtain ⟨c, o, _⟩ := s.cls r (hm r (List.mem_cons_self ..))
      exact rowK_of hP X G c o i1 f1 s.opq (s.free "super" (by decide +kernel))
    · exact rowK_all hP X G s cls (fun x mx => hm x (List.mem_cons_of_mem _ mx)) i2 f2 r m
theorem clsG_of {X : Cx} : ∀ {cls : List ClD}, (∀ r ∈ cls, Gl X r.1 ∧ (r.1 == ("__debug__" : Str)) = false ∧ X.mg r.1 = some (.ref (He.ga X.K r.1))) → ClsG X (cls.map (·.1)) (dsOf X.K cls)
  | [], _ => .nil
  | r :: cls, hh => .cons (hh r (List.mem_cons_self ..)).1 (hh r (List.mem_cons_self ..)).2.1 (hh r (List.mem_cons_self ..)).2.2 (clsG_of fun q m => hh q (List.mem_cons_of_mem _ m))
theorem scMA : FnScope ["_law_x", "_law_found"] ["_law_x"] (defScope sMadeA) := ⟨rfl, rfl, rfl, by decide +kernel, rfl, by decide +kernel, by decide +kernel⟩
theorem scMB : FnScope ["_law_x", "_law_found"] ["_law_x"] (defScope sMadeB) := ⟨rfl, rfl, rfl, by decide +kernel, rfl, by decide +kernel, by decide +kernel⟩
theorem scKA : FnScope ["_law_e", "_law_found"] ["_law_e"] (defScope sKinA) := ⟨rfl, rfl, rfl, by decide +kernel, rfl, by decide +kernel, by decide +kernel⟩
theorem scKB : FnScope ["_law_e", "_law_found"] ["_law_e"] (defScope sKinB) := ⟨rfl, rfl, rfl, by decide +kernel, rfl, by decide +kernel, by decide +kernel⟩
theorem glMA : ∀ r ∈ clsA, (defScope sMadeA).names.lookup r.1 = some .globalImplicit := by decide +kernel
theorem glMB : ∀ r ∈ clsB, (defScope sMadeB).names.lookup r.1 = some .globalImplicit := by decide +kernel
theorem glKA : ∀ r ∈ clsA, (defScope sKinA).names.lookup r.1 = some .globalImplicit := by decide +kernel
theorem glKB : ∀ r ∈ clsB, (defScope sKinB).names.lookup r.1 = some .globalImplicit := by decide +kernel
theorem inA : ∀ r ∈ clsA, r ∈ clsAll := fun r m => List.mem_append_left _ m
theorem inB : ∀ r ∈ clsB, r ∈ clsAll := fun r m => List.mem_append_right _ m
/-- a def that makes, at its table -/
theorem ok_made {x : Str} {i : Nat} {cls : List ClD} {ss : List Stmt} {c Pt : Addr} {oc kV doc pm ct : Value} {od an : Option Addr} {osl : Array (Option Value)} (lk : K.lookup (He.ga K x) = some ⟨oc, od, .func (PySem.W.fnOf x x (defArgs (OA.top i)) (defBody (OA.top i)) (defScope (OA.top i)) .none kV doc pm an (.ref c) ct), osl⟩) (hcd : PySem.W.codeIn K (.ref c) x = true)
    (S : FnScope ["_law_x", "_law_found"] ["_law_x"] (defScope (OA.top i))) (hl : (defScope (OA.top i)).names.lookup ("_law_x" : Str) = some .local) (hf : (defScope (OA.top i)).names.lookup ("_law_found" : Str) = some .local)
    (hb : ∃ p1 p2 p3 p4 p5, defBody (OA.top i) = .Assign [.Name "_law_found" p1] (.List [] p2) p3 :: (ss ++ [.Return (some (.Name "_law_found" p4)) p5])) (A : AreRows (cls.map fun r => (r.1, r.2.1)) ss) (hlen : cls.length < 900)
    (hk : ∀ r ∈ cls, RowK P K mg r.1 r.2.1 (He.ga K r.1) (iAt K r.1)) (hg : ∀ r ∈ cls, (defScope (OA.top i)).names.lookup r.1 = some .globalImplicit)
    (TB : TabB base mg c Pt) (hm : (Pt, x ++ ".<locals>." ++ "<lambda>") ∈ T) (hu : ∀ p ∈ T, p.1 = Pt → p.2 = x ++ ".<locals>." ++ "<lambda>") (htop : (P.main.scope.names.lookup ("super" : Str)).isSome = false) :
    FnOk P w K mg base CX0 2 (He.ga K x) (PySem.W.fnOf x x (defArgs (OA.top i)) (defBody (OA.top i)) (defScope (OA.top i)) .none kV doc pm an (.ref c) ct) ["_law_x"] (spMade T (rsOf K cls)) := by
  refine fn_of lk hcd S (fun vs H Q E h => ?_) (fun A' outer s H vs Q E hr h => ?_)
  · obtain ⟨v, rfl, _⟩ := h
    rfl
  · obtain ⟨v, rfl, hT, q⟩ := h
    obtain ⟨p1, p2, p3, p4, p5, eb⟩ := hb
    have M : MadeX (cxOf CX0 P w K mg base ["_law_x", "_law_found"] x (defScope (OA.top i)) (He.ga K x) (.ref c) A' outer s H E) T c Pt 0 := ⟨rfl, rfl, .inl hl, .inl hf, TB, rfl, hm, hu, hr, htop⟩
    rw [eb]
    refine ⟨_, made_body (rs := rsOf K cls) S.nd rfl (.inl hl) hf (rowStms_of M A hk hg) (by unfold rsOf; rw [List.length_map]; exact hlen), v, rfl, hT, q⟩
theorem ok_kins {x : Str} {i : Nat} {cls : List ClD} {nss : List (List Str)} {ss : List Stmt} {fd : FuncData} (F : Fun K x x (OA.top i) (He.ga K x) fd) (S : FnScope ["_law_e", "_law_found"] ["_law_e"] (defScope (OA.top i))) (hl : (defScope (OA.top i)).names.lookup ("_law_e" : Str) = some .local) (hf : (defScope (OA.top i)).names.lookup ("_law_found" : Str) = some .local)
    (gi : (defScope (OA.top i)).names.lookup ("isinstance" : Str) = some .globalImplicit) (mi : mg "isinstance" = none)
    (hb : ∃ p1 p2 p3 p4 p5, defBody (OA.top i) = .Assign [.Name "_law_found" p1] (.List [] p2) p3 :: (ss ++ [.Return (some (.Name "_law_found" p4)) p5])) (A : Kins nss ss) (hn : nss.flatten = cls.map (·.1)) (hlen : cls.length < 900)
    (hg : ∀ r ∈ cls, (defScope (OA.top i)).names.lookup r.1 = some .globalImplicit ∧ (r.1 == ("__debug__" : Str)) = false ∧ mg r.1 = some (.ref (He.ga K r.1))) : FnOk P w K mg base CX0 1 (He.ga K x) fd ["_law_e"] (spKins K (dsOf K cls)) := by
  refine F.ok S (fun vs H Q E h => ?_) (fun cdv A' outer s H vs Q E hr h => ?_)
  · obtain ⟨a, C, rfl, _⟩ := h
    rfl
  · obtain ⟨a, C, rfl, hE, hA, hK, q⟩ := h
    obtain ⟨p1, p2, p3, p4, p5, eb⟩ := hb
    have M : KinX (cxOf CX0 P w K mg base ["_law_e", "_law_found"] x (defScope (OA.top i)) (He.ga K x) cdv A' outer s H E).nox := ⟨rfl, rfl, S.nd, .inl hl, hf, gi, mi, ⟨asked_gs K, asked_tk K⟩⟩
    rw [eb]
    refine ⟨_, kins_body (ds := dsOf K cls) M A (by rw [hn]; exact clsG_of (X := (cxOf CX0 P w K mg base ["_law_e", "_law_found"] x (defScope (OA.top i)) (He.ga K x) cdv A' outer s H E).nox) hg) (by unfold dsOf; rw [List.length_map]; exact hlen), a, C, rfl, hE, hA, hK, q⟩
end
end OE
namespace OE
open PySem PySem.Spec PyProof.Rows L2 LamX
section
variable {K : PySem.W.Frag} {h : Heap}
theorem names_nd : (clsAll.map (·.1)).Nodup := by decide +kernel
theorem names_ne : ∀ r ∈ clsAll, r.1 ≠ ("AddressError" : Str) := by decide +kernel
theorem cls_len : clsAll.length = 67 := by decide +kernel
theorem ds_all : dsOf K clsA ++ dsOf K clsB = dsOf K clsAll := by
  unfold dsOf clsAll
  rw [List.map_append]
theorem rs_all : rsOf K clsA ++ rsOf K clsB = rsOf K clsAll := by
  unfold rsOf clsAll
  rw [List.map_append]
theorem ds_nd (s : SaysK K h) : (dsOf K clsAll).Nodup := by
  unfold dsOf
  have n := List.pairwise_map.mp names_nd
  refine List.pairwise_map.mpr (n.imp_of_mem fun {r q} mr mq ne e => ne ?_)
  obtain ⟨_, _, dd, cd, sl, l1, n1⟩ := s.cls r mr
  obtain ⟨_, _, dd', cd', sl', l2, n2⟩ := s.cls q mq
  rw [e, l2] at l1
  cases l1
  rw [← n1, ← n2]
theorem cE_ne (s : SaysK K h) {r : ClD} (m : r ∈ clsAll) : cEof K ≠ He.ga K r.1 := fun e => by
  obtain ⟨dd, cd, sl, l1, n1⟩ := s.base
  obtain ⟨_, _, dd', cd', sl', l2, n2⟩ := s.cls r m
  rw [e, l2] at l1
  cases l1
  exact names_ne r m (n2.symm.trans n1)
theorem base_cls (s : SaysK K h) : (PySem.W.clsIn K (cEof K)).isSome = true ∧ PySem.W.typeIn K (.ref (cEof K)) = some (.type "type") := by
  obtain ⟨dd, cd, sl, l1, n1⟩ := s.base
  constructor
  · unfold PySem.W.clsIn
    rw [l1] <;> rfl
  · show (K.lookup (cEof K)).map (·.cls) = _
    rw [l1] <;> rfl
/-- the n-th row's class -/
theorem own_at (s : SaysK K h) {n : Nat} {q : Row} (e : (rsOf K clsAll)[n]? = some q) : OwnK K (cEof K) q.1 (dsOf K clsA) (dsOf K clsB) n ∧ NoF K q.1 q.2 := by
  unfold rsOf at e
  rw [List.getElem?_map] at e
  obtain ⟨r, er, rfl⟩ := Option.map_eq_some_iff.mp e
  have m : r ∈ clsAll := List.mem_of_getElem? er
  obtain ⟨c, _, _⟩ := s.cls r m
  refine ⟨⟨asked_of c, fun D mD => ?_, ?_, ?_, ?_, kit_base c (base_cls s), kit_tyOf c "ValueError" (by decide +kernel) (by decide +kernel), kit_tyOf c "LookupError" (by decide +kernel) (by decide +kernel)⟩, nof_of c⟩
  · rw [ds_all] at mD
    unfold dsOf at mD
    obtain ⟨r2, m2, rfl⟩ := List.mem_map.mp mD
    obtain ⟨c2, _, _⟩ := s.cls r2 m2
    exact kit_of c (cls_isSome (shape_ok c2.shape)) (cE_ne s m2)
  · rw [ds_all]
    exact ds_nd s
  · rw [ds_all]
    unfold dsOf
    rw [List.getElem?_map, er] <;> rfl
  · rw [ds_all]
    unfold dsOf
    rw [List.length_map]
    exact cls_len
end
/-! ### the things that are drawn -/
def ds15 : List PyData := [.none, .int 5, .int (-1), .bool true, .str "a", .str "", .list [.int 1, .str "b"], .tuple [.int 2, .none], .dict [(.str "a", .int 1)], .list [.list [.str "x"]], .int (10 ^ 17), .tuple [.str "s", .int 3], .bool false, .int 0, .int 1]
def shownB (d : PyData) : Bool := (PyData.list [d]).showable && (decide ((PyData.list [d]).depth ≤ 60) && decide ((PyData.list [d]).shown.length ≤ sizeLine))
theorem shown_of {d : PyData} (h : shownB d = true) : ShownD [d] := by
  unfold shownB at h
  simp only [Bool.and_eq_true, decide_eq_true_eq] at h
  exact ⟨h.1, h.2.1, h.2.2⟩
theorem shown15 : ds15.all shownB = true := by decide +kernel
theorem shownHeld : shownB (.list [.str "v", .str "late"]) = true := by decide +kernel
theorem shownNil : ShownD [] := ⟨by decide +kernel, by decide +kernel, by decide +kernel⟩
end OE
namespace OE
open PySem PySem.Spec PyProof.Rows L2 LamX
def valOf (s : Stmt) : Expr := match s with
  | .Assign _ e _ => e
  | _ => .Constant .none 0 ⟨0, 0, 0, 0⟩
def someE : Expr := valOf (inBody sLaw 1)
def newer (H H' : Hp) : Hp := fun b => match H b with
  | none => (match H' b with
    | some (.tbl _) => none
    | o => o)
  | some _ => none
theorem newer_at {H H' : Hp} {b : Addr} {o : HO} (h1 : H b = none) (h2 : H' b = some o) (h3 : ∀ ps, o ≠ .tbl ps) : newer H H' b = some o := by
  unfold newer
  rw [h1]
  dsimp only
  rw [h2]
  cases o with
  | tbl ps => exact absurd rfl (h3 ps)
  | _ => rfl
theorem newer_same {H H' : Hp} : Same (newer H H') H' := fun b o e => by
  unfold newer at e
  split at e
  · split at e
    · cases e
    · exact e
  · cases e
theorem newer_tbl {H H' : Hp} {b : Addr} {o : HO} (e : newer H H' b = some o) (ps : Array Value) : o ≠ .tbl ps := fun z => by
  unfold newer at e
  split at e
  · split at e
    · cases e
    · rename_i hn
      exact hn ps (by rw [e, z])
  · cases e
theorem newer_none {H H' : Hp} {b : Addr} (h : H b ≠ none) : newer H H' b = none := by
  unfold newer
  split
  · rename_i e
    exact absurd e h
  · rfl
def tSome : TE := fun σ H Q => ∀ H' sm xs, Same H H' → H sm = none → H' sm = some (.lst xs) → Things (newer H H') xs ds15 → xs.length = 15 → Q (.ref sm) H'
theorem pe_some {X : Cx} : PE X someE tSome := by
  have z : PE X someE _ := pe_lst (pa_cons pe_non (pa_cons pe_int (pa_cons (pe_un un_neg pe_int) (pa_cons pe_bl (pa_cons pe_str (pa_cons pe_str (pa_cons (pe_lstN (pa_cons pe_int (pa_cons pe_str pa_nil))) (pa_cons (pe_tup (pa_cons pe_int (pa_cons pe_non pa_nil)))
    (pa_cons (pe_disp (pps_cons pe_str pe_int pps_nil) (by rfl) (by rfl) (fun z => by cases z) (by decide)) (pa_cons (pe_lstN (pa_cons (pe_lstN (pa_cons pe_str pa_nil)) pa_nil)) (pa_cons (pe_op op_pow pe_int pe_int) (pa_cons (pe_tup (pa_cons pe_str (pa_cons pe_int pa_nil))) (pa_cons pe_bl (pa_cons pe_int (pa_cons pe_int pa_nil)))))))))))))))
  refine ⟨fun pins s σ H Q I h => z.run pins s σ H Q I ?_⟩
  have two : 2 ≤ sizeLine := by rw [sizeLine_eq]; omega
  have one : 1 ≤ sizeLine := by rw [sizeLine_eq]; omega
  have ff : 15 ≤ sizeLine := by rw [sizeLine_eq]; omega
  refine ⟨1, rfl, two, fun a1 n1 s1 => ?_⟩
  have e1 := same_new (o := HO.lst [.int 1, .str "b"]) n1
  refine ⟨two, fun a2 n2 => ?_⟩
  have e2 := same_new (o := HO.tup [.int 2, .non]) n2
  refine fun a3 n3 => ⟨upd_same, [(Sum.inr "a", .int 1)], rfl, by decide, ?_⟩
  have e3 := same_new (o := HO.dK []) n3
  generalize hH3 : upd (upd (upd (upd H a1 (.lst [.int 1, .str "b"])) a2 (.tup [.int 2, .non])) a3 (.dK [])) a3 (.dK (mergeK [] [(Sum.inr "a", V.int 1)])) = H3
  have d3 : H3 a3 = some (.dK [(Sum.inr "a", V.int 1)]) := by
    rw [← hH3]
    exact upd_same
  have e3' : Same (upd (upd H a1 (.lst [.int 1, .str "b"])) a2 (.tup [.int 2, .non])) H3 := fun b o e => by
    rw [← hH3, upd_ne (ne_of_none e n3), upd_ne (ne_of_none e n3)]
    exact e
  refine ⟨one, fun a4 n4 s4 => ?_⟩
  have e4 := same_new (o := HO.lst [.str "x"]) n4
  refine ⟨one, fun a5 n5 s5 => ?_⟩
  have e5 := same_new (o := HO.lst [.ref a4]) n5
  refine ⟨10, 17, rfl, rfl, ⟨by decide, by decide, by decide⟩, two, fun a6 n6 => ?_⟩
  have e6 := same_new (o := HO.tup [.str "s", .int 3]) n6
  refine ⟨ff, fun sm nm => ?_⟩
  have e7 := same_new (o := HO.lst [.non, .int 5, .int (-1), .bl true, .str "a", .str "", .ref a1, .ref a2, .ref a3, .ref a5, .int (10 ^ Int.toNat 17), .ref a6, .bl false, .int 0, .int 1]) nm
  have E12 := e1.trans e2
  have E13 := E12.trans e3'
  have E14 := E13.trans e4
  have E15 := E14.trans e5
  have E16 := E15.trans e6
  have E17 := E16.trans e7
  have m2 := e1.free n2
  have m3 := E12.free n3
  have m4 := E13.free n4
  have m5 := E14.free n5
  have m6 := E15.free n6
  have mm := E16.free nm
  refine h _ sm _ E17 mm upd_same ?_ rfl
  have k7 := e7
  have k6 := e6.trans k7
  have k5 := e5.trans k6
  have k4 := e4.trans k5
  have k3 := e3'.trans k4
  have k2 := e2.trans k3
  have t1 := newer_at (H := H) n1 (k2 _ _ (upd_same (H := H) (a := a1) (o := .lst [.int 1, .str "b"]))) lst_notTbl
  have t2 := newer_at (H := H) m2 (k3 _ _ upd_same) tup_notTbl
  have t3 := newer_at (H := H) m3 (k4 _ _ d3) (fun ps z => by cases z)
  have t4 := newer_at (H := H) m4 (k5 _ _ upd_same) lst_notTbl
  have t5 := newer_at (H := H) m5 (k6 _ _ upd_same) lst_notTbl
  have t6 := newer_at (H := H) m6 (k7 _ _ upd_same) tup_notTbl
  exact .cons .non (.cons (.int _) (.cons (.int _) (.cons (.bl _) (.cons (.str _) (.cons (.str _) (.cons (.lst t1 s1 (.cons (.int _) (.cons (.str _) .nil))) (.cons (.tup t2 (.cons (.int _) (.cons .non .nil))) (.cons (.dct t3) (.cons (.lst t5 s5 (.cons (.lst t4 s4 (.cons (.str _) .nil)) .nil))
    (.cons (.int _) (.cons (.tup t6 (.cons (.str _) (.cons (.int _) .nil))) (.cons (.bl _) (.cons (.int _) (.cons (.int _) .nil))))))))))))))
end OE
namespace OE
open PySem PySem.Spec PyProof.Rows L2 LamX
abbrev Nl : List Str := ["_law_script", "_law_stream_here", "_law_some", "_law_turn", "_law_x", "_law_made", "_law_at", "_law_mine", "_law_twin", "_law_field", "_law_due", "_law_held"]
theorem scLaw : FnScope Nl ["_law_script"] (defScope sLaw) := ⟨rfl, rfl, rfl, by decide +kernel, rfl, by decide +kernel, by decide +kernel⟩
/-- all that the law's own body leans on -/
structure Ready (P : Program) (w : World) (K : PySem.W.Frag) (mg : Str → Option Value) (base : Heap) (T : List (Addr × Str)) (rsA rsB : List Row) (cE : Addr) (dsA dsB : List Addr) (fSt fPi fMA fMB fOw fSa : Addr) : Prop where
  gSt : mg "_law_stream" = some (.ref fSt)
  gPi : mg "_law_pick" = some (.ref fPi)
  gMA : mg "_law_made_a" = some (.ref fMA)
  gMB : mg "_law_made_b" = some (.ref fMB)
  gOw : mg "_law_is_own" = some (.ref fOw)
  gSa : mg "_law_same" = some (.ref fSa)
  kSt : PySem.W.keepIn K (.ref fSt) = true
  kPi : PySem.W.keepIn K (.ref fPi) = true
  kMA : PySem.W.keepIn K (.ref fMA) = true
  kMB : PySem.W.keepIn K (.ref fMB) = true
  kOw : PySem.W.keepIn K (.ref fOw) = true
  rg : mg "range" = none
  en : mg "enumerate" = none
  rp : mg "repr" = none
  st : ∃ fd, FnOk P w K mg base CX0 1 fSt fd ["_law_script"] (OA.spStream K) ∧ L2.Binds K fd ["_law_script"] []
  pi : ∃ fd, FnOk P w K mg base CX0 2 fPi fd ["_law_stream_here", "_law_things"] (OA.spPick K) ∧ L2.Binds K fd ["_law_stream_here", "_law_things"] []
  ma : ∃ fd, FnOk P w K mg base CX0 2 fMA fd ["_law_x"] (spMade T rsA) ∧ L2.Binds K fd ["_law_x"] []
  mb : ∃ fd, FnOk P w K mg base CX0 2 fMB fd ["_law_x"] (spMade T rsB) ∧ L2.Binds K fd ["_law_x"] []
  ow : ∃ fd, FnOk P w K mg base CX0 2 fOw fd ["_law_e", "_law_at"] (spOwn K cE dsA dsB) ∧ L2.Binds K fd ["_law_e", "_law_at"] []
  sa : ∃ fd, Fun K "_law_same" "_law_same" sSame fSa fd ∧ L2.Binds K fd ["_law_found", "_law_due"] []
  lA : rsA.length = 31
  lB : rsB.length = 36
  row : ∀ (n : Nat) (q : Row), (rsA ++ rsB)[n]? = some q → OwnK K cE q.1 dsA dsB n ∧ NoF K q.1 q.2
/-! ### what stays -/
theorem tabs_but {T : List (Addr × Str)} {p l : Addr} {H H' : Hp} {xs ys : List V} (t : Tabs T H) (hp : H p = some (.lst xs)) (hl : H l = some (.lst ys)) (b : OA.But p l H H') : Tabs T H' := fun r hr => by
  have k : ∀ x o, H x = some o → (∀ zs, o ≠ .lst zs) → H' x = some o := fun x o e n => b x o (fun z => by rw [z, hp] at e; exact n _ (Option.some.inj e).symm) (fun z => by rw [z, hl] at e; exact n _ (Option.some.inj e).symm) e
  obtain ⟨ps, a1, a2, a3⟩ := t r hr
  refine ⟨ps, k _ _ a1 (fun zs z => by cases z), a2, fun pos cv hc => ?_⟩
  obtain ⟨c, e1, e2⟩ := a3 pos cv hc
  exact ⟨c, e1, k _ _ e2 (fun zs z => by unfold CodeO at z; cases z)⟩
theorem Things.at_ {H : Hp} : ∀ {vs : List V} {ds : List PyData}, Things H vs ds → ∀ {j : Nat} {x : V}, vs[j]? = some x → ∃ d, ds[j]? = some d ∧ Thing H x d
  | [], _, .nil, j, x, e => by simp at e
  | v :: vs, d :: ds, .cons t ts, 0, x, e => by
    simp at e
    subst e
    exact ⟨d, rfl, t⟩
  | v :: vs, d :: ds, .cons t ts, j + 1, x, e => by
    obtain ⟨d', e', t'⟩ := Things.at_ ts (j := j) (x := x) (by simpa using e)
    exact ⟨d', by simpa using e', t'⟩
def dsFor (fo : Option Str) (d : PyData) : List PyData := match fo with
  | some _ => [d]
  | none => []
theorem things_due {H : Hp} {x : V} {d : PyData} (t : Thing H x d) (fo : Option Str) : Things H (dueOf fo x) (dsFor fo d) := by
  cases fo with
  | none => exact .nil
  | some f => exact .cons t .nil
theorem shown_due {d : PyData} (h : ShownD [d]) (fo : Option Str) : ShownD (dsFor fo d) := by
  cases fo with
  | none => exact shownNil
  | some f => exact h
theorem rows_same {H H' : Hp} {x : V} {ts : List Addr} {rs : List Row} (r : RowsOk H x ts rs) (e : Same H H') : RowsOk H' x ts rs := r.ext (Same.extN e)
/-- a row as its tests ask for it -/
theorem rowV_of {K : PySem.W.Frag} {H : Hp} {t C : Addr} {fo : Option Str} {x : V} {d : PyData} (r : RowOk H t C fo x) (ha : Asked K C) (hn : NoF K C fo) (ht : Thing H x d) (hs : ShownD [d]) :
    ∃ m w l b, H t = some (.tup [.ref m, .ref w, .ref l, .ref b]) ∧ ErrAt H m C ∧ ErrAt H w C ∧ RowV K H m w l b C fo x (dsFor fo d) := by
  obtain ⟨m, w, l, b, h1, h2, h3, h4, h5, h6⟩ := r
  exact ⟨m, w, l, b, h1, errOf_at h2, errOf_at h3, h2, h3, h4, h5, h6, ha, hn, things_due ht fo, shown_due hs fo⟩
theorem rows_len {H : Hp} {x : V} {ts : List Addr} {rs : List Row} (r : RowsOk H x ts rs) {i : Nat} (h : i < ts.length) : ∃ t q, ts[i]? = some t ∧ rs[i]? = some q ∧ RowOk H t q.1 q.2 x := by
  have h2 : i < rs.length := by rw [← r.length]; exact h
  obtain ⟨t, e, ok⟩ := r.get (List.getElem?_eq_getElem h2)
  exact ⟨t, _, e, List.getElem?_eq_getElem h2, ok⟩
theorem Thing.mono {H H' : Hp} {v : V} {d : PyData} (e : Same H H') (t : Thing H v d) : Thing H' v d := by
  cases Things.mono e (.cons t .nil) with
  | cons a _ => exact a
/-- the rows with another thing written into the list that they keep -/
theorem rows_held {H : Hp} {p : Addr} {ys : List V} (hp : H p = some (.lst [.str "v"])) : ∀ {ts : List Addr} {rs : List Row}, RowsOk H (.ref p) ts rs → RowsOk (upd H p (.lst ys)) (.ref p) ts rs
  | _, _, .nil => .nil
  | _, _, .cons a r => by
    refine .cons (row_lst a hp fun m w l d z => ?_) (rows_held hp r)
    obtain ⟨m', w', l', d', h1, _, _, _, h5, _⟩ := a
    rw [h1] at z
    cases z
    intro e
    rw [e, hp] at h5
    have y := Option.some.inj h5
    injection y with y
    unfold dueOf at y
    split at y <;> cases y
end OE
namespace OE
open PySem PySem.Spec PyProof.Rows L2 LamX
section
variable {P : Program} {w : World} {K : PySem.W.Frag} {mg : Str → Option Value} {base : Heap} {T : List (Addr × Str)} {rsA rsB : List Row} {cE : Addr} {dsA dsB : List Addr} {fSt fPi fMA fMB fOw fSa : Addr}
/-- between two turns of the draws -/
def LS (T : List (Addr × Str)) (p l sm : Addr) (G : Hp) (xs : List V) (i : Nat) (H : Hp) : Prop := ∃ d m cells, OA.StreamAt H p l d (i : Nat) m cells ∧ Same G H ∧ H sm = some (.lst xs) ∧ Tabs T H
theorem LS.same {p l sm : Addr} {G : Hp} {xs : List V} {i : Nat} {H H' : Hp} (s : LS T p l sm G xs i H) (e : Same H H') : LS T p l sm G xs i H' := by
  obtain ⟨d, m, cells, ⟨s1, s2, s3, s4, s5, s6⟩, g, h, t⟩ := s
  exact ⟨d, m, cells, ⟨e _ _ s1, e _ _ s2, s3, s4, s5, s6⟩, g.trans e, e _ _ h, t.ext e⟩
/-- all but the tables: what is no table stays, the tables grow -/
theorem LS.grow {p l sm : Addr} {G : Hp} {xs : List V} {i : Nat} {H H' : Hp} (s : LS T p l sm G xs i H) (e : ExtN H H') (t' : Tabs T H') (hG : ∀ b o, G b = some o → ∀ ps, o ≠ .tbl ps) : LS T p l sm G xs i H' := by
  obtain ⟨d, m, cells, ⟨s1, s2, s3, s4, s5, s6⟩, g, h, t⟩ := s
  exact ⟨d, m, cells, ⟨e _ _ s1 lst_notTbl, e _ _ s2 lst_notTbl, s3, s4, s5, s6⟩, fun b o q => e _ _ (g b o q) (hG b o q), e _ _ h lst_notTbl, t'⟩
theorem law_body (R : Ready P w K mg base T rsA rsB cE dsA dsB fSt fPi fMA fMB fOw fSa) {fa a : Addr} {cdv : Value} {s : Shared} {H : Hp} {ns : List Int} (hS : SqL K H a (ns.map V.int)) (hT : Tabs T H) (hr : Room 3 (callerA.deeper (envOfC "law" (defScope sLaw) s.heap.objs.size fa cdv))) :
    ∃ t, PSs (cxOf CX0 P w K mg base Nl "law" (defScope sLaw) fa cdv callerA [] s H (fun _ _ _ => False)).nox (defBody sLaw) t ∧ t { nx := fun _ H' => (V.non = .bl true), rt := fun v _ => v = .bl true } (L2.start Nl [.ref a]) H := by
  obtain ⟨fdSt, GSt, bSt⟩ := R.st
  obtain ⟨fdPi, GPi, bPi⟩ := R.pi
  obtain ⟨fdMA, GMA, bMA⟩ := R.ma
  obtain ⟨fdMB, GMB, bMB⟩ := R.mb
  have M : LawX (cxOf CX0 P w K mg base Nl "law" (defScope sLaw) fa cdv callerA [] s H (fun _ _ _ => False)).nox 0 fSa := ⟨rfl, rfl, rfl, rfl, .inl rfl, .inl rfl, .inl rfl, .inl rfl, rfl, R.gSa, R.rp, R.sa, rfl, hr.mono (by decide)⟩
  have M1 : LawY (cxOf CX0 P w K mg base Nl "law" (defScope sLaw) fa cdv callerA [] s H (fun _ _ _ => False)).nox 0 fOw cE dsA dsB := ⟨rfl, .inl rfl, rfl, R.gOw, R.kOw, R.ow, hr.mono (by decide)⟩
  refine ⟨_, pss_cons (ps_set (i := 1) scLaw.nd rfl (.inl rfl) (pe_call GSt (hr.mono (by decide)) (by rfl) R.gSt R.kSt bSt .nil pass0 (pa_cons (pv 0) pa_nil)))
    (pss_cons (ps_set (i := 2) scLaw.nd rfl (.inl rfl) pe_some)
    (pss_cons (ps_for PassesOwn.never rfl (pi_range1 (by rfl) R.rg (pa_cons pe_int pa_nil)) (pg_name (i := 3) scLaw.nd rfl (.inl rfl))
      (pss_cons (ps_set (i := 4) scLaw.nd rfl (.inl rfl) (pe_call GPi (hr.mono (by decide)) (by rfl) R.gPi R.kPi bPi .nil pass0 (pa_cons (pv 1) (pa_cons (pv 2) pa_nil))))
      (pss_cons (ps_set (i := 5) scLaw.nd rfl (.inl rfl) (pe_op op_cat (pe_call GMA (hr.mono (by decide)) (by rfl) R.gMA R.kMA bMA .nil pass0 (pa_cons (pv 4) pa_nil)) (pe_call GMB (hr.mono (by decide)) (by rfl) R.gMB R.kMB bMB .nil pass0 (pa_cons (pv 4) pa_nil))))
      (pss_one (ps_for PassesOwn.never rfl (pi_enum (by rfl) R.en (pa_cons (pv 5) pa_nil))
        (pg_tup rfl (pgs_cons (pg_name (i := 6) scLaw.nd rfl (.inl rfl)) (pgs_cons (pg_tup rfl (pgs_cons (pg_name (i := 7) scLaw.nd rfl (.inl rfl)) (pgs_cons (pg_name (i := 8) scLaw.nd rfl (.inl rfl)) (pgs_cons (pg_name (i := 9) scLaw.nd rfl (.inl rfl)) (pgs_cons (pg_name (i := 10) scLaw.nd rfl (.inl rfl)) pgs_nil))))) pgs_nil)))
        (pss_cons (ps_test1 M M1 ⟨_, _, _, _, _, _, _, _, _, _, _, _, _, _, rfl⟩) (pss_one (ps_test2 M ⟨_, _, _, _, _, _, _, _, _, _, _, _, _, _, _, _, _, _, rfl⟩))))))))
    (pss_cons (ps_set (i := 11) scLaw.nd rfl (.inl rfl) (pe_lstN (pa_cons pe_str pa_nil)))
    (pss_cons (ps_set (i := 5) scLaw.nd rfl (.inl rfl) (pe_op op_cat (pe_call GMA (hr.mono (by decide)) (by rfl) R.gMA R.kMA bMA .nil pass0 (pa_cons (pv 11) pa_nil)) (pe_call GMB (hr.mono (by decide)) (by rfl) R.gMB R.kMB bMB .nil pass0 (pa_cons (pv 11) pa_nil))))
    (pss_cons (ps_expr (pe_bm PySem.F.plainAttrs_list PySem.F.slot_list_append PySem.F.type_list_append mt_append (pv 11) (pa_cons pe_str pa_nil)))
    (pss_cons (ps_for PassesOwn.never rfl (pi_list (pv 5)) (pg_tup rfl (pgs_cons (pg_name (i := 7) scLaw.nd rfl (.inl rfl)) (pgs_cons (pg_name (i := 8) scLaw.nd rfl (.inl rfl)) (pgs_cons (pg_name (i := 9) scLaw.nd rfl (.inl rfl)) (pgs_cons (pg_name (i := 10) scLaw.nd rfl (.inl rfl)) pgs_nil)))))
      (pss_one (ps_test2 M ⟨_, _, _, _, _, _, _, _, _, _, _, _, _, _, _, _, _, _, rfl⟩)))
    (pss_one (ps_ret pe_bl)))))))), ?_⟩
  refine ⟨_, rfl, a, ns, rfl, hS, fun H1 p l np nl e1 S1 => ?_⟩
  refine fun H2 sm xs e2 nsm hsm hth hlen => ?_
  -- what is drawn from stands apart from the stream
  generalize hG : newer H1 H2 = G at hth
  have gp : G p = none := by
    rw [← hG]
    exact newer_none (by rw [S1.1]; simp)
  have gl : G l = none := by
    rw [← hG]
    exact newer_none (by rw [S1.2.1]; simp)
  have gs : Same G H2 := by
    rw [← hG]
    exact newer_same
  have smp : sm ≠ p := fun z => by
    rw [z, S1.1] at nsm
    cases nsm
  have sml : sm ≠ l := fun z => by
    rw [z, S1.2.1] at nsm
    cases nsm
  have T2 : Tabs T H2 := hT.ext (L2.Same.trans e1 e2)
  have gT : ∀ b o, G b = some o → ∀ ps, o ≠ .tbl ps := fun b o e ps => by
    rw [← hG] at e
    exact newer_tbl e ps
  have L0 : LS T p l sm G xs 0 H2 := ⟨0, 17, ns, ⟨e2 _ _ S1.1, e2 _ _ S1.2.1, by decide, by decide, by decide, by decide⟩, gs, hsm, T2⟩
  refine ⟨3, rfl, by decide, by decide, for_range (n := 3) (fun i σ G' => LS T p l sm G xs i G' ∧ ∃ s3 s4 s5 s6 s7 s8 s9 s10 s11 : Option V, σ = [some (.ref a), some (.ref p), some (.ref sm), s3, s4, s5, s6, s7, s8, s9, s10, s11]) ⟨L0, _, _, _, _, _, _, _, _, _, rfl⟩ ?_ ?_⟩
  · rintro i σ H3 hi ⟨L3, s3, s4, s5, s6, s7, s8, s9, s10, s11, rfl⟩
    obtain ⟨d, m, cells, S3, g3, h3, t3⟩ := L3
    refine ⟨_, rfl, _, rfl, p, l, sm, d, (i : Nat), m, cells, xs, rfl, S3, by omega, h3, smp, sml, by omega, by omega, fun H4 d' m' cells' j x B S4 hx => ?_⟩
    -- a thing is drawn
    have g4 : Same G H4 := fun b o e => B b o (fun z => by rw [z, gp] at e; cases e) (fun z => by rw [z, gl] at e; cases e) (g3 b o e)
    have h4 : H4 sm = some (.lst xs) := B _ _ smp sml h3
    have t4 := tabs_but t3 S3.1 S3.2.1 B
    have L4 : LS T p l sm G xs (i + 1) H4 := ⟨d', m', cells', by exact_mod_cast S4, g4, h4, t4⟩
    obtain ⟨dx, hdx, tx⟩ := Things.at_ hth hx
    have shx : ShownD [dx] := shown_of (List.all_eq_true.mp shown15 dx (List.mem_of_getElem? hdx))
    refine ⟨_, rfl, x, rfl, t4, fun H5 pa tsa eN5 t5 npa hpa RA => ?_⟩
    refine ⟨_, rfl, x, rfl, t5, fun H6 pb tsb eN6 t6 npb hpb RB => ?_⟩
    have la : tsa.length = 31 := RA.length.trans R.lA
    have lb : tsb.length = 36 := RB.length.trans R.lB
    refine ⟨pa, pb, tsa.map V.ref, tsb.map V.ref, rfl, rfl, eN6 _ _ hpa lst_notTbl, hpb, by rw [List.length_map, List.length_map, sizeLine_eq]; omega, fun pm npm => ?_⟩
    have e7 := same_new (o := HO.lst (tsa.map V.ref ++ tsb.map V.ref)) npm
    have L7 := ((L4.grow eN5 t5 gT).grow eN6 t6 gT).same e7
    have R7 : RowsOk _ x (tsa ++ tsb) (rsA ++ rsB) := rows_same ((RA.ext eN6).append RB) e7
    generalize hH7 : upd H6 pm (.lst (tsa.map V.ref ++ tsb.map V.ref)) = H7 at L7 R7
    have hpm : H7 pm = some (.lst ((tsa ++ tsb).map V.ref)) := by
      rw [← hH7, upd_same, List.map_append]
    have gx : Thing H7 x dx := by
      obtain ⟨_, _, _, _, g7, _, _⟩ := L7
      exact Thing.mono g7 tx
    refine ⟨_, rfl, pm, (tsa ++ tsb).map V.ref, rfl, .inl (.inl hpm), ?_⟩
    refine for_it walk_enum (fun n σ G' => Same H7 G' ∧ ∃ s6 s7 s8 s9 s10 : Option V, σ = [some (.ref a), some (.ref p), some (.ref sm), some (.int (0 + (i : Nat))), some x, some (.ref pm), s6, s7, s8, s9, s10, s11]) ⟨L2.Same.refl _, _, _, _, _, _, rfl⟩ (fun n σ G' _ q => .inl (.inl (q.1 _ _ hpm))) ?_ ?_
    · rintro n v σ G8 G8' hn ⟨e8, u6, u7, u8, u9, u10, rfl⟩ ⟨TT, y0, y1, rfl, nTT, rfl, q0, q1⟩
      rw [List.length_map] at hn
      obtain ⟨t, q, et, eq, ok⟩ := rows_len (rows_same R7 e8) hn
      have y0e : y0 = .int (n : Nat) := (Option.some.inj q0).symm
      have y1e : y1 = .ref t := by
        have z : ((tsa ++ tsb).map V.ref)[n]? = some y1 := q1
        rw [List.getElem?_map, et] at z
        exact (Option.some.inj z).symm
      subst y0e y1e
      have e9 := same_new (o := HO.tup [.int (n : Nat), .ref t]) nTT
      obtain ⟨own, nof⟩ := R.row n q eq
      have ok9 := ok.ext (Same.extN e9)
      obtain ⟨m', w', l', b', ht, hm, hw, RV⟩ := rowV_of ok9 own.asked nof (Thing.mono (L2.Same.trans e8 e9) gx) shx
      refine ⟨TT, _, rfl, SqT.of upd_same, rfl, .int (n : Nat), _, rfl, ?_⟩
      refine ⟨.ref t, _, rfl, t, _, rfl, SqT.of ht, rfl, .ref m', _, rfl, ?_⟩
      refine ⟨.ref w', _, rfl, .ref l', _, rfl, .ref b', _, rfl, rfl, rfl, ?_⟩
      refine ⟨m', w', n, q.1, rfl, rfl, rfl, hm, hw, own, fun G10 e10 => ?_⟩
      refine ⟨m', w', l', b', q.1, q.2, x, _, rfl, rfl, rfl, rfl, RV.ext e10, fun G11 e11 => ?_⟩
      exact ⟨L2.Same.trans (L2.Same.trans (L2.Same.trans e8 e9) e10) e11, _, _, _, _, _, rfl⟩
    · rintro σ G8 ⟨e8, u6, u7, u8, u9, u10, rfl⟩
      exact ⟨L7.same e8, _, _, _, _, _, _, _, _, _, rfl⟩
  · rintro σ H3 ⟨L3, s3, s4, s5, s6, s7, s8, s9, s10, s11, rfl⟩
    obtain ⟨d, m, cells, S3, g3, h3, t3⟩ := L3
    have one : 1 ≤ sizeLine := by rw [sizeLine_eq]; omega
    refine ⟨one, fun hl nhl shl => ?_⟩
    have t4 := tabs_new (o := HO.lst [.str "v"]) t3 nhl
    have hh4 : (upd H3 hl (.lst [.str "v"])) hl = some (.lst [.str "v"]) := upd_same
    refine ⟨_, rfl, .ref hl, rfl, t4, fun H5 pa tsa eN5 t5 npa hpa RA => ?_⟩
    refine ⟨_, rfl, .ref hl, rfl, t5, fun H6 pb tsb eN6 t6 npb hpb RB => ?_⟩
    have la : tsa.length = 31 := RA.length.trans R.lA
    have lb : tsb.length = 36 := RB.length.trans R.lB
    have hh6 := eN6 _ _ (eN5 _ _ hh4 lst_notTbl) lst_notTbl
    refine ⟨pa, pb, tsa.map V.ref, tsb.map V.ref, rfl, rfl, eN6 _ _ hpa lst_notTbl, hpb, by rw [List.length_map, List.length_map, sizeLine_eq]; omega, fun pm npm => ?_⟩
    have e7 := same_new (o := HO.lst (tsa.map V.ref ++ tsb.map V.ref)) npm
    have R7 : RowsOk _ (.ref hl) (tsa ++ tsb) (rsA ++ rsB) := rows_same ((RA.ext eN6).append RB) e7
    have hh7 := e7 _ _ hh6
    generalize hH7 : upd H6 pm (.lst (tsa.map V.ref ++ tsb.map V.ref)) = H7 at R7 hh7
    have hpm : H7 pm = some (.lst ((tsa ++ tsb).map V.ref)) := by
      rw [← hH7, upd_same, List.map_append]
    have R8 := rows_held (ys := [.str "v"] ++ [.str "late"]) hh7 R7
    have pmh : pm ≠ hl := fun z => by
      rw [z, hh7] at hpm
      have y := Option.some.inj hpm
      injection y with y
      have z := congrArg List.length y
      rw [List.length_map, List.length_append, la, lb] at z
      cases z
    refine ⟨_, rfl, .inl ⟨rfl, _, .inl (.inl hh7)⟩, hl, _, _, rfl, rfl, hh7, by show 1 < sizeLine; rw [sizeLine_eq]; omega, ?_⟩
    have hpm8 : (upd H7 hl (.lst ([.str "v"] ++ [.str "late"]))) pm = some (.lst ((tsa ++ tsb).map V.ref)) := by
      rw [upd_ne pmh]
      exact hpm
    have gx : Thing (upd H7 hl (.lst ([.str "v"] ++ [.str "late"]))) (.ref hl) (.list [.str "v", .str "late"]) := .lst upd_same shl (.cons (.str _) (.cons (.str _) .nil))
    generalize hH8 : upd H7 hl (.lst ([.str "v"] ++ [.str "late"])) = H8 at R8 hpm8 gx
    refine ⟨_, rfl, pm, rfl, ⟨_, .inl (.inl hpm8)⟩, ?_⟩
    refine for_list (xs := (tsa ++ tsb).map V.ref) (fun n σ G' => Same H8 G' ∧ ∃ s3 s4 s6 s7 s8 s9 s10 s11 : Option V, σ = [some (.ref a), some (.ref p), some (.ref sm), s3, s4, some (.ref pm), s6, s7, s8, s9, s10, s11]) ⟨L2.Same.refl _, _, _, _, _, _, _, _, _, rfl⟩ (fun n σ G' _ q => .inl (.inl (q.1 _ _ hpm8))) ?_ ?_
    · rintro n v σ G8 hv ⟨e8, u3, u4, u6, u7, u8, u9, u10, u11, rfl⟩
      have hn : n < (tsa ++ tsb).length := by
        obtain ⟨z, _⟩ := List.getElem?_eq_some_iff.mp hv
        rw [List.length_map] at z
        exact z
      obtain ⟨t, q, et, eq, ok⟩ := rows_len (rows_same R8 e8) hn
      have ve : v = .ref t := by
        rw [List.getElem?_map, et] at hv
        exact (Option.some.inj hv).symm
      subst ve
      obtain ⟨own, nof⟩ := R.row n q eq
      obtain ⟨m', w', l', b', ht, hm, hw, RV⟩ := rowV_of ok own.asked nof (Thing.mono e8 gx) (shown_of shownHeld)
      refine ⟨t, _, rfl, SqT.of ht, rfl, .ref m', _, rfl, ?_⟩
      refine ⟨.ref w', _, rfl, .ref l', _, rfl, .ref b', _, rfl, rfl, ?_⟩
      refine ⟨m', w', l', b', q.1, q.2, .ref hl, _, rfl, rfl, rfl, rfl, RV, fun G11 e11 => ?_⟩
      exact ⟨L2.Same.trans e8 e11, _, _, _, _, _, _, _, _, rfl⟩
    · rintro σ G8 ⟨e8, u3, u4, u6, u7, u8, u9, u10, u11, rfl⟩
      exact rfl
end
end OE
namespace OE
open PySem PySem.Spec PyProof.Rows L2 LamX
def fAt (K : PySem.W.Frag) (x : Str) : Addr := He.ga K x
section
variable {P : Program} {w : World} {K : PySem.W.Frag} {mg : Str → Option Value} {base h : Heap} {T : List (Addr × Str)}
theorem gl_of (X : K.In base) (G : base.Ns mainGlobals mg) (s : SaysK K h) {x : Str} {i : Nat} (m : (x, i) ∈ lawFns) : mg x = some (.ref (He.ga K x)) := PySem.W.mg_of X G (s.fn _ m).1
theorem fr_of (X : K.In base) (G : base.Ns mainGlobals mg) (s : SaysK K h) {x : Str} (m : x ∈ frees) : mg x = none := PySem.W.mg_none_of X G (s.free _ m)
theorem clsM (X : K.In base) (G : base.Ns mainGlobals mg) (s : SaysK K h) {r : ClD} (m : r ∈ clsAll) : mg r.1 = some (.ref (He.ga K r.1)) := by
  obtain ⟨c, _, _⟩ := s.cls r m
  exact PySem.W.mg_of X G c.glo
theorem lenA : clsA.length = 31 := by decide +kernel
theorem lenB : clsB.length = 36 := by decide +kernel
theorem qA_ok : ("_law_made_a" : Str) ++ ".<locals>." ++ "<lambda>" = ("_law_made_a" : Str) ++ ".<locals>." ++ "<lambda>" := rfl
theorem ready_of (hP : file = P.main.file) (htop : (P.main.scope.names.lookup ("super" : Str)).isSome = false) (X : K.In base) (G : base.Ns mainGlobals mg) (s : SaysK K h) {tb : Str → Addr × Addr}
    (ht : ∀ x ∈ tabs, ∃ oc od fd sl, K.lookup (He.ga K x) = some ⟨oc, od, .func fd, sl⟩ ∧ fd.code = .ref (tb x).1) (TA : TabB base mg (tb "_law_made_a").1 (tb "_law_made_a").2) (TB : TabB base mg (tb "_law_made_b").1 (tb "_law_made_b").2)
    (ne : (tb "_law_made_a").2 ≠ (tb "_law_made_b").2) :
    Ready P w K mg base [((tb "_law_made_a").2, ("_law_made_a" : Str) ++ ".<locals>." ++ "<lambda>"), ((tb "_law_made_b").2, ("_law_made_b" : Str) ++ ".<locals>." ++ "<lambda>")] (rsOf K clsA) (rsOf K clsB) (cEof K) (dsOf K clsA) (dsOf K clsB)
      (fAt K "_law_stream") (fAt K "_law_pick") (fAt K "_law_made_a") (fAt K "_law_made_b") (fAt K "_law_is_own") (fAt K "_law_same") := by
  have mSt : (("_law_stream" : Str), 71) ∈ lawFns := by simp [lawFns]
  have mDr : (("_law_draw" : Str), 72) ∈ lawFns := by simp [lawFns]
  have mPi : (("_law_pick" : Str), 73) ∈ lawFns := by simp [lawFns]
  have mMA : (("_law_made_a" : Str), 74) ∈ lawFns := by simp [lawFns]
  have mMB : (("_law_made_b" : Str), 75) ∈ lawFns := by simp [lawFns]
  have mKA : (("_law_kinds_a" : Str), 76) ∈ lawFns := by simp [lawFns]
  have mKB : (("_law_kinds_b" : Str), 77) ∈ lawFns := by simp [lawFns]
  have mOw : (("_law_is_own" : Str), 78) ∈ lawFns := by simp [lawFns]
  have mSa : (("_law_same" : Str), 79) ∈ lawFns := by simp [lawFns]
  obtain ⟨fdSt, FSt⟩ := Says_fun s mSt
  obtain ⟨fdDr, FDr⟩ := Says_fun s mDr
  obtain ⟨fdPi, FPi⟩ := Says_fun s mPi
  obtain ⟨fdMA, FMA⟩ := Says_fun s mMA
  obtain ⟨fdMB, FMB⟩ := Says_fun s mMB
  obtain ⟨fdKA, FKA⟩ := Says_fun s mKA
  obtain ⟨fdKB, FKB⟩ := Says_fun s mKB
  obtain ⟨fdOw, FOw⟩ := Says_fun s mOw
  obtain ⟨fdSa, FSa⟩ := Says_fun s mSa
  have hiA := rowK_all (P := P) hP X G s clsA inA areInitsA areFosA
  have hiB := rowK_all (P := P) hP X G s clsB inB areInitsB areFosB
  have nf := fun (r : ClD) (m : r ∈ clsAll) => (names_ok r m).1
  have T0 : OA.Txt0 mg := ⟨fr_of X G s (by simp [frees]), fr_of X G s (by simp [frees]), fr_of X G s (by simp [frees]), fr_of X G s (by simp [frees])⟩
  have T1 : OA.Txt1 K mg (He.ga K "_law_draw") := ⟨T0, gl_of X G s mDr, FDr.kp⟩
  have isi : mg "isinstance" = none := fr_of X G s (by simp [frees])
  have bKA : L2.Binds K fdKA ["_law_e"] [] := FKA.binds fun _ _ _ _ _ _ us hl => match us, hl with | [_], _ => rfl
  have bKB : L2.Binds K fdKB ["_law_e"] [] := FKB.binds fun _ _ _ _ _ _ us hl => match us, hl with | [_], _ => rfl
  have GKA : FnOk P w K mg base CX0 1 (He.ga K "_law_kinds_a") fdKA ["_law_e"] (spKins K (dsOf K clsA)) := ok_kins FKA scKA rfl rfl rfl isi kbodyA areKinsA kins_clsA (by rw [lenA]; decide) fun r m => ⟨glKA r m, nf r (inA r m), clsM X G s (inA r m)⟩
  have GKB : FnOk P w K mg base CX0 1 (He.ga K "_law_kinds_b") fdKB ["_law_e"] (spKins K (dsOf K clsB)) := ok_kins FKB scKB rfl rfl rfl isi kbodyB areKinsB kins_clsB (by rw [lenB]; decide) fun r m => ⟨glKB r m, nf r (inB r m), clsM X G s (inB r m)⟩
  have TO : TxtOwn K mg (He.ga K "_law_kinds_a") (He.ga K "_law_kinds_b") (cEof K) := ⟨isi, fr_of X G s (by simp [frees]), fr_of X G s (by simp [frees]), fr_of X G s (by simp [frees]), PySem.W.mg_of X G s.gE, gl_of X G s mKA, gl_of X G s mKB, FKA.kp, FKB.kp, ⟨asked_gs K, asked_tk K⟩⟩
  refine ⟨gl_of X G s mSt, gl_of X G s mPi, gl_of X G s mMA, gl_of X G s mMB, gl_of X G s mOw, gl_of X G s mSa, FSt.kp, FPi.kp, FMA.kp, FMB.kp, FOw.kp, fr_of X G s (by simp [frees]), fr_of X G s (by simp [frees]), fr_of X G s (by simp [frees]),
    ⟨fdSt, OA.ok_stream FSt T0, FSt.binds fun _ _ _ _ _ _ us hl => match us, hl with | [_], _ => rfl⟩,
    ⟨fdPi, OA.ok_pick FPi T1 FDr (FDr.binds fun _ _ _ _ _ _ us hl => match us, hl with | [_, _], _ => rfl), FPi.binds fun _ _ _ _ _ _ us hl => match us, hl with | [_, _], _ => rfl⟩,
    ?ma, ?mb,
    ⟨fdOw, ok_own FOw TO GKA GKB bKA bKB, FOw.binds fun _ _ _ _ _ _ us hl => match us, hl with | [_, _], _ => rfl⟩,
    ⟨fdSa, FSa, FSa.binds fun _ _ _ _ _ _ us hl => match us, hl with | [_, _], _ => rfl⟩,
    by unfold rsOf; rw [List.length_map, lenA], by unfold rsOf; rw [List.length_map, lenB], fun n q e => own_at s (by rw [← rs_all]; exact e)⟩
  case ma =>
    obtain ⟨_, oc, od, osl, kV, doc, pm, an, cdv, ct, lk, hcd⟩ := s.fn _ mMA
    obtain ⟨oc', od', fd', sl', lk', ec⟩ := ht "_law_made_a" (by simp [tabs])
    dsimp only at lk hcd
    rw [lk] at lk'
    cases lk'
    have ec' : cdv = .ref (tb "_law_made_a").1 := ec
    subst ec'
    refine ⟨_, ok_made lk hcd scMA rfl rfl bodyA (rows_clsA ▸ areRowsA) (by rw [lenA]; decide) hiA glMA TA (List.mem_cons_self ..) (fun p mp e => ?_) htop, .all fun us hl => match us, hl with | [_], _ => rfl⟩
    rcases List.mem_cons.mp mp with z | z
    · rw [z]
    · rw [List.mem_singleton.mp z] at e
      exact absurd e.symm ne
  case mb =>
    obtain ⟨_, oc, od, osl, kV, doc, pm, an, cdv, ct, lk, hcd⟩ := s.fn _ mMB
    obtain ⟨oc', od', fd', sl', lk', ec⟩ := ht "_law_made_b" (by simp [tabs])
    dsimp only at lk hcd
    rw [lk] at lk'
    cases lk'
    have ec' : cdv = .ref (tb "_law_made_b").1 := ec
    subst ec'
    refine ⟨_, ok_made lk hcd scMB rfl rfl bodyB (rows_clsB ▸ areRowsB) (by rw [lenB]; decide) hiB glMB TB (List.mem_cons_of_mem _ (List.mem_cons_self ..)) (fun p mp e => ?_) htop, .all fun us hl => match us, hl with | [_], _ => rfl⟩
    rcases List.mem_cons.mp mp with z | z
    · rw [z] at e
      exact absurd e ne
    · rw [List.mem_singleton.mp z]
end
end OE
namespace OE
open PySem PySem.W PySem.Calls PyProof.Rows
/-! ### all looks behind the top as one hook -/
abbrev LookT : Type := (Bool × List FnV2) × ((Bool × List InV) × ((Bool × List InV) × ((Bool × List InV) × (Bool × List InV))))
def partOk (g : Addr → Option Obj) (i n : Nat) : Prop := ∀ r ∈ part i n, clsD g file (adr g "AddressError") r = true ∧ initG g (inAd g (adr g r.1)) = initV (cInit r)
theorem part_ok {g : Addr → Option Obj} {i n : Nat} (e : hookB (part i n) file g = vB i n) : partOk g i n := fun r m => by
  have e1 : (part i n).all (clsD g file (adr g "AddressError")) = true := congrArg (fun z : Bool × List InV => z.1) e
  have e2 : ((part i n).map fun r => initG g (inAd g (adr g r.1))) = (part i n).map fun r => initV (cInit r) := congrArg (fun z : Bool × List InV => z.2) e
  exact ⟨List.all_eq_true.mp e1 r m, List.map_inj_left.mp e2 r m⟩
theorem parts : clsAll = part 0 17 ++ (part 17 17 ++ (part 34 17 ++ part 51 16)) := rfl
theorem says_all {h : Heap} (a : hookA lawFns frees tabs flds h.get? = vA) (b0 : hookB (part 0 17) file h.get? = vB 0 17) (b1 : hookB (part 17 17) file h.get? = vB 17 17) (b2 : hookB (part 34 17) file h.get? = vB 34 17) (b3 : hookB (part 51 16) file h.get? = vB 51 16) : ∃ K : Frag, K.In h ∧ SaysK K h :=
  says_of a fun r m => by
    rw [parts] at m
    rcases List.mem_append.mp m with m | m
    · exact part_ok b0 r m
    rcases List.mem_append.mp m with m | m
    · exact part_ok b1 r m
    rcases List.mem_append.mp m with m | m
    · exact part_ok b2 r m
    · exact part_ok b3 r m
def hk : Hook where
  α := LookT
  obs s := (hookA lawFns frees tabs flds s.heap.get?, (hookB (part 0 17) file s.heap.get?, (hookB (part 17 17) file s.heap.get?, (hookB (part 34 17) file s.heap.get?, hookB (part 51 16) file s.heap.get?))))
  val _ := (vA, (vB 0 17, (vB 17 17, (vB 34 17, vB 51 16))))
  says _ h := ∃ K : Frag, K.In h ∧ SaysK K h
  of _ s e := says_all (congrArg (fun z : LookT => z.1) e) (congrArg (fun z : LookT => z.2.1) e) (congrArg (fun z : LookT => z.2.2.1) e) (congrArg (fun z : LookT => z.2.2.2.1) e) (congrArg (fun z : LookT => z.2.2.2.2) e)
  keeps _ h h' s k := by
    obtain ⟨K, X, t⟩ := s
    exact ⟨K, X.keeps k, t.keeps k⟩
def ob (s : SharedT) : LookT := (obA s, (obB 0 17 s, (obB 17 17 s, (obB 34 17 s, obB 51 16 s))))
theorem ob_eq (s : SharedT) : ob s = hk.obs s.abs := by
  have e : HandSHeadRun.getT s = s.abs.heap.get? := funext (HandSHeadRun.getT_eq s)
  show (hookA lawFns frees tabs flds (HandSHeadRun.getT s), (hookB (part 0 17) file (HandSHeadRun.getT s), (hookB (part 17 17) file (HandSHeadRun.getT s), (hookB (part 34 17) file (HandSHeadRun.getT s), hookB (part 51 16) file (HandSHeadRun.getT s))))) = _
  rw [e] <;> rfl
theorem map_pair {S A B : Type} {o : Option S} {f : S → A} {g : S → B} {a : A} {b : B} (h1 : o.map f = some a) (h2 : o.map g = some b) : o.map (fun s => (f s, g s)) = some (a, b) := by
  cases o with
  | none => cases h1
  | some s =>
    obtain rfl := Option.some.inj h1
    obtain rfl := Option.some.inj h2
    rfl
end OE
namespace OE
open PySem PySem.Spec PyProof.Rows L2 LamX
theorem room4 : Room 4 callerA := ⟨rfl, by decide, by decide⟩
/-- the law, called by the outermost caller behind the top -/
theorem law_call0 {P : Program} {w : World} {K : PySem.W.Frag} {mg mb : Str → Option Value} {fa a : Addr} {s₁ : Shared} {vs : List Value} {ns : List Int}
    (hP : file = P.main.file) (htop : (P.main.scope.names.lookup ("super" : Str)).isSome = false) (KX : K.In s₁.heap) (S : SaysK K s₁.heap) (hmg : mg "law" = some (.ref fa))
    (nG : s₁.heap.Ns mainGlobals mg) (nB : s₁.heap.Ns builtinsNs mb) (hB : ∀ x : Str, x ≠ "__name__" → mb x = bootBuiltins x) (lim : s₁.heap.NoLimit) (ge : s₁.gens = #[])
    (bm : ∃ (m : Addr) (ob : Obj), mg "__builtins__" = some (.ref m) ∧ m ≠ builtinsNs ∧ s₁.heap.get? m = some ob ∧ ob.cls = .type "module" ∧ ob.dict = some builtinsNs ∧ ob.data = .plain)
    (ga : s₁.heap.get? a = some { cls := .type "list", data := .seq vs.toArray }) (iv : IntsAre vs ns) (hl : ns.length ≤ sizeLine) :
    codeAny (model P w) callerA (.call (.ref fa) ⟨[.ref a], []⟩) (fun r s' => r = .ok (.ret (.bool true)) ∧ OldK s₁.heap s'.heap ∧ s'.os = s₁.os ∧ AllBare s'.gens) s₁ := by
  obtain ⟨tb, ht, nd⟩ := S.tab
  have mA : ("_law_made_a" : Str) ∈ tabs := by simp [tabs]
  have mB : ("_law_made_b" : Str) ∈ tabs := by simp [tabs]
  have ne : (tb "_law_made_a").2 ≠ (tb "_law_made_b").2 := fun z => by
    have y : [(tb "_law_made_a").2, (tb "_law_made_b").2].Nodup := nd
    rw [z] at y
    simp at y
  have inCs : ∀ p ∈ [tb "_law_made_a", tb "_law_made_b"], ∃ x ∈ tabs, p = tb x := fun p m => by
    rcases List.mem_cons.mp m with z | z
    · exact ⟨_, mA, z⟩
    · exact ⟨_, mB, List.mem_singleton.mp z⟩
  have mLaw : (("law" : Str), 80) ∈ lawFns := by simp [lawFns]
  obtain ⟨eL, oc, od, osl, kV, doc, pm, an, cdv, ct, lk, hcd⟩ := S.fn _ mLaw
  dsimp only at eL lk hcd
  have ef : fa = He.ga K "law" := by
    have z := hmg.symm.trans (PySem.W.mg_of KX nG eL)
    exact Value.ref.inj (Option.some.inj z)
  subst ef
  refine law_at (cs := [tb "_law_made_a", tb "_law_made_b"]) (K := K) KX nG nB hB lim ge (fun p m => ?_) (fun p m => ?_) (fun p m => ?_) bm ga iv hl fun base H KB G TB hT hS e0 => ?_
  · obtain ⟨x, mx, rfl⟩ := inCs p m
    exact (ht x mx).2.2.1
  · obtain ⟨x, mx, rfl⟩ := inCs p m
    exact (ht x mx).2.1
  · obtain ⟨x, mx, rfl⟩ := inCs p m
    exact PySem.W.codeHd_of_K KX (ht x mx).1
  · have R := ready_of (P := P) (w := w) hP htop KB G S (fun x mx => (ht x mx).2.2.2) (TB _ (List.mem_cons_self ..)) (TB _ (List.mem_cons_of_mem _ (List.mem_cons_self ..))) ne
    have tabs0 : Tabs [((tb "_law_made_a").2, ("_law_made_a" : Str) ++ ".<locals>." ++ "<lambda>"), ((tb "_law_made_b").2, ("_law_made_b" : Str) ++ ".<locals>." ++ "<lambda>")] H := fun p m => by
      rcases List.mem_cons.mp m with z | z
      · rw [z]
        exact TabS.nil (hT _ (List.mem_cons_self ..))
      · rw [List.mem_singleton.mp z]
        exact TabS.nil (hT _ (List.mem_cons_of_mem _ (List.mem_cons_self ..)))
    refine run_ofS (CX := CX0) (k := 3) (N := Nl) (ps := ["_law_script"]) (us := [.ref a]) (vs := [.ref a]) (Q := fun v _ => v = .bl true) (E := fun _ _ _ => False) lk hcd scLaw room4 e0 (.of_eq rfl) (.cons rfl .nil) rfl fun hr => ?_
    obtain ⟨t, ht1, ht2⟩ := law_body R (fa := He.ga K "law") (cdv := cdv) (s := s₁) hS tabs0 hr
    exact ⟨t, ht1.nox, ht2⟩
end OE
namespace OE
open PySem PySem.W PySem.Calls PyProof.Rows
theorem run (w : World) : HandSHeadRun.RunEq R qv hk ob 20000 names w := fun os => map_pair (runL w os) (map_pair (runS w os) (map_pair (runA w os) (map_pair (runB0 w os) (map_pair (runB1 w os) (map_pair (runB2 w os) (runB3 w os))))))
theorem file_ok : file = PySem.Challenge.rw_oldaddress_k00_errors_made.prog.main.file := by kernel_rfl
theorem top_ok : (PySem.Challenge.rw_oldaddress_k00_errors_made.prog.main.scope.names.lookup ("super" : PySem.Str)).isSome = false := by kernel_rfl
end OE
open PySem PySem.W PySem.Calls PyProof.Rows
theorem PySem.Challenge.cw_oldaddress_k00_errors_made_holds : PySem.Challenge.rw_oldaddress_k00_errors_made.Holds := by
  w_on; o_law
  refine HandSHeadRun.head_any (r := OpenLaw.row PySem.Challenge.rw_oldaddress_k00_errors_made) (q := view (OpenLaw.row PySem.Challenge.rw_oldaddress_k00_errors_made).prog [80]) (H := OE.hk) (ob := OE.ob) (M := 20000) (loose := OE.names) (d := HandSHeadRun.topDef (OpenLaw.row PySem.Challenge.rw_oldaddress_k00_errors_made).prog 80) (kwd := []) OE.ob_eq
    (by kernel_rfl) (fun s => by kernel_rfl) OE.run (by kernel_rfl) (by kernel_rfl) (by kernel_rfl) (by rfl) (by first | assumption | decide +kernel) (by decide +kernel) ⟨rfl, rfl, rfl, rfl, rfl, by decide +kernel⟩ ?hw ?hc
  case hw => w_witness2
  case hc =>
    refine Att.attach_callB (l := PySem.Challenge.rw_oldaddress_k00_errors_made) (n := 63) rfl (by kernel_rfl) fun w s₀ s₁ mg mb fa o pm cd doc a vs ns G Y ho hd hcd hmg0 hobj hints hlen hbits hg => ?_
    obtain ⟨K, KX, S⟩ := Y
    have hmg : mg ("law" : PySem.Str) = some (.ref fa) := by
      have e : (HandSHeadRun.topDef (OpenLaw.row PySem.Challenge.rw_oldaddress_k00_errors_made).prog 80).name = ("law" : PySem.Str) := by kernel_rfl
      rw [← e]
      exact hmg0
    exact OE.law_call0 OE.file_ok OE.top_ok KX S hmg G.T.g G.T.b G.T.builtins G.T.nolimit hg G.T.bmain hobj hints (Nat.le_trans hlen (by decide))

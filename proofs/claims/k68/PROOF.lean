import PyProof.Rows.All
import Wide.All
import OpenK.AllK
import Wide.FinOn
import KE.KExcSuper
import HandS.ForMost
import HandS.Exc
import HandS.ExcInit
import HandS.Wide
import HandS.Walk
import HandS.IsInst
import PyProof.IsiBase
import PyProof.IsiStr
import HandS.ForExc
import KE.GoesNew
import HandS.Iter
import HandS.Zip
import HandS.WordsExc
import HandS.More
import HandS.Strs
import HandS.CallLocal
import KE.GoesEnumKw
import HandS.SortInts
import HandS.Star
import HandS.Conv
import HandS.ListItems
import HandS.Set
import HandS.ExcField
import HandS.Lambda
import HandS.Defaults
import PyProof.ReprRoads
import KE.SortKeyHeap
import HandS.SortKw
import HandS.Keys
import HandS.ExcOwn
import HandS.Style
import KE.KNestM
import HandS.HeadHook1
import HandS.HeadHook3
import HandS.HeadHook4
import HandS.EndTab
import KE.KStateDown
import Lean
import HandS.Head0
import HandS.Head1
import HandS.Head2
import Wide.Once
import PySem.Challenge.RW_oldaddress_k68_whole_late_begins
set_option Elab.async false
set_option linter.all false
set_option maxRecDepth 100000
set_option maxHeartbeats 0
set_option exponentiation.threshold 5000
/-! An own error class called with positional arguments and with keywords. -/
namespace OE
open PySem PySem.W PySem.Calls PyProof.Rows PySem.HandSPX
section
variable {M : Model} {A : Around} {E : Value → Shared → Prop} {hp : Heap} {g : Array GenState} {d : Drawn} {t : Nat} {os : OsState}
variable {nm q : Str} {C N : Addr} {bs bm bmB : List Value} {hdct : Bool} {sn : List Str} {sub : List Value} {ab : Bool} {col : Option Bool} {dd : Option Addr} {k0 k1 k2 k3 k5 : Option Value} {B newId initId : String}
variable {xs : List Value} {kw : List (Str × Value)}
theorem chk_call {Q : Unit → Shared → Prop} (oC : hp.get? C = some (excClassObj nm q C N bs bm hdct sn sub ab col dd k0 k1 k2 k3 k5 newId)) (z : Q () ⟨hp, g, d, t, os⟩) : wpAny M A (checkBuiltinCall "type.__call__" ⟨.ref C :: xs, kw⟩) Q E ⟨hp, g, d, t, os⟩ := by
  have w3 := tc_sub
  have wT : (⟨hp, g, d, t, os⟩ : Shared).TypeIs (.ref C) "type" := ⟨_, oC, rfl⟩
  simp only [checkBuiltinCall, tc_kind, tc_split]
  repeat (any_goals (first | assumption | with_reducible refine wpAny_loadPart_at oC ?_ | with_reducible refine wpAny_onRaise ?_ | with_reducible refine wpAny_map ?_ | wp_step))
theorem chk_new (F : ExcBaseFacts B newId initId bmB) (hT : ∀ Y : String, bm.contains (.type Y) = bmB.contains (.type Y)) {Q : Unit → Shared → Prop}
    (oC : hp.get? C = some (excClassObj nm q C N bs bm hdct sn sub ab col dd k0 k1 k2 k3 k5 newId)) (z : Q () ⟨hp, g, d, t, os⟩) : wpAny M A (checkBuiltinCall newId ⟨.ref C :: xs, kw⟩) Q E ⟨hp, g, d, t, os⟩ := by
  have inB : (Value.ref C :: bm).contains (.type B) = true := by
    rw [List.contains_cons, hT, F.hasB]
    exact Bool.or_true _
  have w1 := F.noStar
  simp only [checkBuiltinCall, F.newKind, F.newSplit, F.newRow]
  repeat (first | refine wpAny_loadPart_at oC ?_ | (refine wpAny_isSubtype_exc oC ?_; rw [inB]) | refine wpAny_staticBase_exc oC ?_ | refine wpAny_madeBy_exc oC ?_ | simp only [bne_self_eq_false, Bool.false_eq_true, if_false] | wp_step)
  all_goals first | exact z | skip
end
end OE
namespace OE
open PySem PySem.W PySem.Calls PyProof.Rows PySem.HandSPX
section
variable {prog : Program} {w : World} {A : Around} {E : Value → Shared → Prop} {R : Result → Shared → Prop} {hp : Heap} {g : Array GenState} {d : Drawn} {t : Nat} {os : OsState}
variable {nm q : Str} {C N : Addr} {bs bm bmB : List Value} {hdct : Bool} {sn : List Str} {sub : List Value} {ab : Bool} {col : Option Bool} {dd : Option Addr} {k0 k1 k2 k3 k5 : Option Value} {B newId initId : String}
variable {xs : List Value} {kw : List (Str × Value)}
/-- the heap behind __new__ -/
abbrev newHp (hp : Heap) (C : Addr) (xs : List Value) : Heap := (hp.push (W.kdv_tup xs)).push (excO C hp.objs.size)
theorem run_new (F : ExcBaseFacts B newId initId bmB) (hT : ∀ Y : String, bm.contains (.type Y) = bmB.contains (.type Y)) (oC : hp.get? C = some (excClassObj nm q C N bs bm hdct sn sub ab col dd k0 k1 k2 k3 k5 newId)) (hl : xs.length ≤ sizeLine)
    (z : R (.ok (.ret (.ref (hp.objs.size + 1)))) ⟨newHp hp C xs, g, d, t, os⟩) : codeAny (model prog w) A (.builtin newId ⟨.ref C :: xs, kw⟩) R ⟨hp, g, d, t, os⟩ := by
  have w1 := F.ends
  have inB : (Value.ref C :: bm).contains (.type B) = true := by
    rw [List.contains_cons, hT, F.hasB]
    exact Bool.or_true _
  have notA : (Value.ref C :: bm).contains (.type "AttributeError") = false := by rw [List.contains_cons, hT, F.noAttr] <;> rfl
  have notN : (Value.ref C :: bm).contains (.type "NameError") = false := by rw [List.contains_cons, hT, F.noName] <;> rfl
  refine codeAny_builtinAt F.entry ?_
  unfold Builtin.«BaseException.__new__»
  refine _root_.PySem.wpAt_bind ?_; show _root_.PySem.wpAt _ _ _ (stack >>= _) _ _ _
  refine _root_.PySem.wpAt_bind (_root_.PySem.wpAt_stack fun p l => _root_.PySem.wpAt_of_wpAny ?_)
  wp_walk
  refine _root_.PySem.wpAt_of_wpAny ?_
  rw [F.owner]
  repeat (first | with_reducible refine wpAny_madeHere_exc F.canon oC ?_ | with_reducible refine wpAny_loadPart_at oC ?_ | (with_reducible refine wpAny_isSubtype_exc oC ?_; first | rw [inB] | rw [notA] | rw [notN]) | wp_step)
  show R _ _
  rw [Heap.size_push]
  exact z
theorem run_typeCall {fI : Addr} {Q : Fin → Shared → Prop} (F : ExcBaseFacts B newId initId bmB) (hT : ∀ Y : String, bm.contains (.type Y) = bmB.contains (.type Y)) (oC : hp.get? C = some (excClassObj nm q C N bs bm hdct sn sub ab col dd k0 k1 k2 k3 k5 newId)) (hl : xs.length ≤ sizeLine)
    (li : W.Looks (model prog w) hp (typeLookup (.ref C) "__init__") (some (.ref fI))) (lb : ∀ self, W.Looks (model prog w) hp (bindSpecial (.ref fI) self) (.ref fI, [self]))
    (z : codeAny (model prog w) A (.call (.ref fI) ⟨.ref (hp.objs.size + 1) :: xs, kw⟩) (fun r s' => match r with | .ok (.ret v) => v = .none ∧ Q (.done (.ret (.ref (hp.objs.size + 1)))) s' | .ok _ => False | .error e => E e s') ⟨newHp hp C xs, g, d, t, os⟩) :
    wpAny (model prog w) A (Builtin.«type.__call__» ⟨.ref C :: xs, kw⟩) Q E ⟨hp, g, d, t, os⟩ := by
  repeat (first | with_reducible refine wpAny_loadPart_at oC ?_ | with_reducible refine wpAny_madeBy_exc oC ?_ | wp_step)
  refine codeAny_call_builtin_code (Code.quiet_builtin _ F.quiet) (chk_new F hT oC (run_new F hT oC hl ?_))
  show wpAny _ _ _ _ _ _
  have kp : ∀ b o, hp.get? b = some o → (newHp hp C xs).get? b = some o := fun b o e => Heap.get?_push_of_some _ (Heap.get?_push_of_some _ e)
  have oC' := kp _ _ oC
  have ox : (newHp hp C xs).get? (hp.objs.size + 1) = some (excO C hp.objs.size) := by heap_get
  have inC : (Value.ref C :: bm).contains (.ref C) = true := by simp
  have li' := li.keeps kp
  have lb' := (lb (.ref (hp.objs.size + 1))).keeps kp
  unfold isInstance
  repeat (first | with_reducible refine wpAny_loadPart_at ox ?_ | (with_reducible refine wpAny_isSubtype_exc oC' ?_; rw [inC]) | wp_step)
  show wpAny _ _ (typeLookup (.ref C) _) _ _ _
  refine li'.at (wpAny_holding (wpAny_bind (lb'.at (wpAny_bind (wpAny_call (codeAny_mono z fun r s' y => ?_))))))
  cases r with
  | error e => exact y
  | ok fl =>
    cases fl with
    | ret v =>
      have y' : v = .none ∧ Q (.done (.ret (.ref (hp.objs.size + 1)))) s' := y
      obtain ⟨e0, y2⟩ := y'
      subst e0
      first | exact wpAny_pure (wpAny_pure y2) | (wp_walk; try exact y2)
    | next => exact (show False from y).elim
    | brk => exact (show False from y).elim
    | cont => exact (show False from y).elim
/-- C(*xs, **kw) of an own error class with an own __init__ -/
theorem call_any {fI : Addr} (F : ExcBaseFacts B newId initId bmB) (hT : ∀ Y : String, bm.contains (.type Y) = bmB.contains (.type Y)) (oC : hp.get? C = some (excClassObj nm q C N bs bm hdct sn sub ab col dd k0 k1 k2 k3 k5 newId)) (hl : xs.length ≤ sizeLine)
    (li : W.Looks (model prog w) hp (typeLookup (.ref C) "__init__") (some (.ref fI))) (lb : ∀ self, W.Looks (model prog w) hp (bindSpecial (.ref fI) self) (.ref fI, [self]))
    (z : codeAny (model prog w) (A.under (.builtin "type.__call__" ⟨.ref C :: xs, kw⟩)) (.call (.ref fI) ⟨.ref (hp.objs.size + 1) :: xs, kw⟩) (W.InitBack (hp.objs.size + 1) R) ⟨newHp hp C xs, g, d, t, os⟩) :
    codeAny (model prog w) A (.call (.ref C) ⟨xs, kw⟩) R ⟨hp, g, d, t, os⟩ := by
  have w1 := tc_lookup
  have w2 := tc_bind (.ref C)
  have wT : (⟨hp, g, d, t, os⟩ : Shared).TypeIs (.ref C) "type" := ⟨_, oC, rfl⟩
  refine codeAny_of_tree ?_; show wpAny _ _ (callAny (.ref C) _) _ _ _
  repeat (any_goals (first | assumption | with_reducible refine wpAny_loadPart_at oC ?_ | wp_step))
  refine ⟨rfl, codeAny_call_builtin_at (Code.quiet_builtin _ (by decide +kernel)) entry_typeCall (chk_call oC (run_typeCall F hT oC hl li lb (codeAny_mono z fun r s' y => ?_)))⟩
  rcases r with e | (v | _ | _ | _) <;> exact y
end
end OE
/-! An own error class over an own class over ValueError, whose __init__ says super().__init__(text) and keeps one thing. -/
namespace OE
open PySem PySem.W PySem.Calls PyProof.Rows PySem.HandSPX
/-! ### the text of __init__ -/
def eA (f : Str) (p1 p2 : Pos) : Arguments := { posonlyargs := [], args := [{ arg := "self", annotation := none, pos := p1 }, { arg := f, annotation := none, pos := p2 }], vararg := none, kwonlyargs := [], kw_defaults := [], kwarg := none, defaults := [] }
def eB0 (tx : Str) (a b c d e e' : Pos) : Stmt := .Expr (.Call (.Attribute (.Call (.Name "super" a) [] [] b) "__init__" c) [.Constant (.str tx) 0 d] [] e) e'
def eB1 (f : Str) (g h i j : Pos) : Stmt := .Assign [.Attribute (.Name "self" g) f h] (.Name f i) j
def eS (f : Str) : Scope := { kind := .function, names := [(PySem.Str.ofString "self", .local), (f, .local), (PySem.Str.ofString "__class__", .free), (PySem.Str.ofString "super", .globalImplicit)], isGenerator := false, isCoroutine := false, more := [] }
/-- what the written part says of the class at C, and of its __init__, at fI -/
structure Cl1 (P : Program) (K : Frag) (C fI : Addr) (f : Str) : Prop where
  cls : ∃ nm q N bs bm sn sub ab col dd k0 k1 k2 k3 k5, K.lookup C = some (excClassObj nm q C N bs bm true sn sub ab col dd k0 k1 k2 k3 k5 "ValueError.__new__") ∧ refsVE bm = true
  sa : findIn K (.ref C) "__setattr__" = some (some (.builtin "object.__setattr__"))
  noF : findIn K (.ref C) f = some none
  iC : findIn K (.ref C) "__init__" = some (some (.ref fI))
  tC : typeIn K (.ref fI) = some (.type "function")
  sup : ks_superIn K C C "__init__" = some (some (.builtin "ValueError.__init__"))
  sub : mroIn K C (.ref C) = some true
  exI : excInitIn K C [.type "ValueError", .type "Exception", .type "BaseException", .type "object"] "ValueError.__new__" = true
  subV : subIn K (.ref C) (.type "ValueError") = some true
  opq : nsIn K cStatics "thirdparty.any" = some none
  spr : nsIn K mainGlobals "super" = some none
  fn : ∃ (oc : Value) (od : Option Addr) (doc pm : Value) (an : Option Addr) (ct : Value) (osl : Array (Option Value)) (p1 p2 : Pos) (tx : Str) (a b c d e e' g h i j : Pos) (qual : Str) (cc cda : Addr) (vs : Array Value) (file : Str) (tf : Tok) (ccl cl : Value) (cdd cld : Option Addr) (ccs csl : Array (Option Value)),
    K.lookup fI = some ⟨oc, od, .func (fnX "__init__" qual (eA f p1 p2) [eB0 tx a b c d e e', eB1 f g h i j] (eS f) [("__class__", cc)] .none .none doc pm an (.ref cda) ct), osl⟩ ∧ codeIn K (.ref cda) qual = true ∧
    (c.endLine == e.line) = true ∧ K.lookup cda = some ⟨ccl, cdd, .fields vs, ccs⟩ ∧ vs[2]? = some (.str file tf) ∧ ((P.main.file : Str) == file) = true ∧ K.lookup cc = some ⟨cl, cld, .cell (some (.ref C)), csl⟩
  fok : (f == ("self" : Str)) = false ∧ (f == ("__class__" : Str)) = false ∧ (f == ("super" : Str)) = false ∧ (f == ("__debug__" : Str)) = false
theorem he_of {env : Env} {o : Expr} {x tx : Str} {c d e : Pos} (hl : (c.endLine == e.line) = true) :
    eval (.Call (.Attribute o x c) [.Constant (.str tx) 0 d] [] e) env = (do
        let ov ← attributeBase o x env (eval o env)
        standAt c.atName
        let (f, first) ← holding [ov] (getMethod ov x (do return (← importBound o env).getD true))
        callWith e f first (backTo e (starEach [.Constant (.str tx) 0 d] env)) []) := by
  have hpos : methodCallPos true o env c e = pure e := by unfold methodCallPos; simp [hl]
  have hform : methodCallForm ([Expr.Constant (.str tx) 0 d].length + ([] : List Keyword).length) (backTo e (starEach [.Constant (.str tx) 0 d] env)) (backToKw e (keywordEach [] env)) = true := by rfl
  rw [arm_eval_Call]
  unfold methodCall
  rw [hform, hpos]
  rfl
/-- what __init__ leaves of a fresh exception at x -/
structure InitEnd (h h' : Heap) (x C dx t1 : Addr) (f : Str) (v : Value) : Prop where
  keep : ∀ b o, b ≠ x → h.get? b = some o → h'.get? b = some o
  obj : h'.get? x = some { cls := .ref C, dict := some dx, data := .fields #[.ref t1, .none, .none, .none, .bool false, .none] }
  dbig : h.objs.size ≤ dx
  dne : dx ≠ x
  ns : h'.Ns1 dx (fun y => if y = f then some v else none)
section
variable {P : Program} {w : World} {A : Around} {E : Value → Shared → Prop} {R : Result → Shared → Prop} {s : Shared} {K : Frag} {mg mb : Str → Option Value} {C fI : Addr} {f : Str}
theorem init1 (T : Cl1 P K C fI f) {x t0 : Addr} {v : Value} {args : Args} (X : K.In s.heap) (hg : s.heap.Ns mainGlobals mg) (hb : s.heap.Ns builtinsNs mb) (hbi : ∀ x : Str, x ≠ "__name__" → mb x = bootBuiltins x) (htop : (P.main.scope.names.lookup ("super" : Str)).isSome = false)
    (hlim : s.heap.NoLimit) (hx : s.heap.get? x = some (excO C t0)) (hnx : K.lookup x = none) (hroom : A.depth < recursionLimit)
    (hbind : ∀ fd : FuncData, (∃ p1 p2, fd.params = eA f p1 p2) → fd.defaults = .none → fd.kwdefaults = .none → BindsTo s fd args [("self", .ref x), (f, v)])
    (hq : ∀ h' tk dx t1, InitEnd s.heap h' x C dx t1 f v → R (.ok (.ret .none)) { s with heap := h', toks := tk }) :
    codeAny (model P w) A (.call (.ref fI) args) R s := by
  obtain ⟨oc, od, doc, pm, an, ct, osl, p1, p2, tx, a, b, c, d, e, e', g, h, i, j, qual, cc, cda, vs, file, tf, ccl, cl, cdd, cld, ccs, csl, ho, hcd, hline, hcode, hvs, hfile, hcell⟩ := T.fn
  obtain ⟨nm, q, N, bs, bm, sn, sub, ab, col, dd, k0, k1, k2, k3, k5, hC, hbm⟩ := T.cls
  obtain ⟨n1, n2, n3, n4⟩ := T.fok
  have hcl : clsIn K C = some { name := nm, bases := bs, mro := .ref C :: bm, ns := N, qualname := q, hasDict := true, slotNames := sn, subclasses := sub, abstract := ab, collection := col, hasDel := false } := by unfold clsIn; rw [hC] <;> rfl
  have lself : (eS f).names.lookup ("self" : Str) = some .local := by simp [eS, List.lookup]
  have lf : (eS f).names.lookup f = some .local := by simp [eS, List.lookup, n1]
  have lsup : (eS f).names.lookup ("super" : Str) = some .globalImplicit := by
    have z : (("super" : Str) == f) = false := by rw [beq_eq_false_iff_ne]; intro q; rw [← q] at n3; exact absurd n3 (by decide +kernel)
    have z1 : (("super" : Str) == PySem.Str.ofString "self") = false := by decide +kernel
    have z2 : (("super" : Str) == PySem.Str.ofString "__class__") = false := by decide +kernel
    simp [eS, List.lookup, z, z1, z2]
  have lcls : (eS f).names.lookup ("__class__" : Str) = some .free := by
    have z : (("__class__" : Str) == f) = false := by rw [beq_eq_false_iff_ne]; intro q; rw [← q] at n2; exact absurd n2 (by decide +kernel)
    have z1 : (("__class__" : Str) == PySem.Str.ofString "self") = false := by decide +kernel
    simp [eS, List.lookup, z, z1]
  have n1' : (("self" : Str) == f) = false := by rw [beq_eq_false_iff_ne]; exact fun q => (beq_eq_false_iff_ne.mp n1) q.symm
  have e1 : ([("self", Value.ref x), (f, v)] : List (Str × Value)).reverse.lookup ("self" : Str) = some (Value.ref x) := by simp [List.lookup, n1']
  have e2 : ([("self", Value.ref x), (f, v)] : List (Str × Value)).reverse.lookup f = some v := by simp [List.lookup]
  refine ks_codeAny_call_defAt (fd := fnX "__init__" qual (eA f p1 p2) [eB0 tx a b c d e e', eB1 f g h i j] (eS f) [("__class__", cc)] .none .none doc pm an (.ref cda) ct) (body := [eB0 tx a b c d e e', eB1 f g h i j]) (binds := [("self", .ref x), (f, v)])
    hroom (X _ _ ho) rfl hlim (codeRec_of X hcd) rfl (hbind _ ⟨_, _, rfl⟩ rfl rfl) ?_ ?_ (fun h₁ hns hk₁ => ?_)
  · intro y hy
    have z : (eS f).names = [(PySem.Str.ofString "self", .local), (f, .local), (PySem.Str.ofString "__class__", .free), (PySem.Str.ofString "super", .globalImplicit)] := rfl
    rw [show (fnX "__init__" qual (eA f p1 p2) [eB0 tx a b c d e e', eB1 f g h i j] (eS f) [("__class__", cc)] .none .none doc pm an (.ref cda) ct).scope.names = _ from z] at hy
    simp only [List.mem_cons, List.not_mem_nil, or_false] at hy
    rcases hy with rfl | rfl | rfl | rfl <;> exact fun z => nomatch z
  · intro y hy
    simp only [List.mem_cons, List.not_mem_nil, or_false] at hy
    rcases hy with rfl | rfl
    · exact lself
    · exact lf
  have X₁ : K.In h₁ := X.keeps hk₁
  have hx₁ := hk₁ _ _ hx
  have hxL : s.heap.objs.size ≠ x := Nat.ne_of_gt (Heap.lt_size hx)
  obtain ⟨hp, gs, dr, tk, os⟩ := s
  refine ks_wpAt_execs_cons ?_
  show _root_.PySem.wpAt _ _ _ (exec (.Expr (.Call (.Attribute (.Call (.Name "super" a) [] [] b) "__init__" c) [.Constant (.str tx) 0 d] [] e) e') _) _ _ _
  refine ks_wpAt_Expr_any ?_ (by rfl) (by rfl)
  refine ks_wpAt_MethodCall (pl := (do return (← importBound (.Call (.Name "super" a) [] [] b) (callEnv (fnX "__init__" qual (eA f p1 p2) [eB0 tx a b c d e e', eB1 f g h i j] (eS f) [("__class__", cc)] .none .none doc pm an (.ref cda) ct) hp.objs.size fI)).getD true)) ?_ (he_of hline)
  have hClo : h₁.get? C = some _ := X₁ _ _ hC
  -- super()
  refine ks_wpAt_super_base (env := callEnv (fnX "__init__" qual (eA f p1 p2) [eB0 tx a b c d e e', eB1 f g h i j] (eS f) [("__class__", cc)] .none .none doc pm an (.ref cda) ct) hp.objs.size fI) lsup lcls (by decide +kernel) rfl (X₁ _ _ ho) rfl rfl rfl (X₁ _ _ hcode) rfl hvs hfile htop ?_
  refine ks_loadName_global rfl lsup (loadGlobal_builtin (env := callEnv (fnX "__init__" qual (eA f p1 p2) [eB0 tx a b c d e e', eB1 f g h i j] (eS f) [("__class__", cc)] .none .none doc pm an (.ref cda) ct) hp.objs.size fI) (hg.keeps hk₁) (mg_none_of X hg T.spr) (hb.keeps hk₁) ((hbi _ (by decide +kernel)).trans (by decide +kernel)) ⟨rfl, ?_⟩)
  refine wpAny_loadName_free rfl lcls rfl ⟨_, X₁ _ _ hcell, rfl⟩ ?_
  refine wpAny_loadName_local (v := .ref x) rfl lself hns e1 ?_
  refine ks_wpAny_isType_cls hClo rfl ⟨rfl, ?_⟩
  refine ks_wpAny_call_super hClo rfl hx₁ rfl (fun c e => nomatch e) (looks_mroIn X₁ T.sub) (fun h₂ hso k₂ => ?_)
  have X₂ : K.In h₂ := X₁.keeps k₂
  have hx₂ := k₂ _ _ hx₁
  have I₂ : InstAt h₂ x (excO C t0) C none := ⟨hx₂, rfl, rfl, trivial⟩
  have hxC : x ≠ C := fun z => by rw [z, hC] at hnx; cases hnx
  -- .__init__
  refine kxs_getMethod kxs_ValueError hso (looks_opaque X₂ T.opq) (l₀ := .ref C :: bm) (l := ((Value.ref C :: bm).dropWhile (· != .ref C)).drop 1) (fun A Q E s k q => wpAny_bind ((looks_clsIn X₂ hcl) A _ E s k (wpAny_pure q))) rfl X₂ ?_ (I₂.type.andThen (looks_subIn X₂ T.subV)) hxC (by decide +kernel) ?_
  · have z := T.sup
    unfold ks_superIn at z
    rw [hcl] at z
    exact z
  -- its call
  show wpAny _ _ (callWith e (.ref h₂.objs.size) [] (backTo e (starEach [.Constant (.str tx) 0 d] _)) []) _ _ _
  have hso₃ : (h₂.push (kxs_mw "ValueError.__init__" x)).get? h₂.objs.size = some (kxs_mw "ValueError.__init__" x) := Heap.get?_push_at rfl rfl
  have hx₃ : (h₂.push (kxs_mw "ValueError.__init__" x)).get? x = some (excO C t0) := Heap.get?_push_of_some _ hx₂
  refine kxs_callWith (i := "ValueError.__init__") (x := x) rfl (evalArgs_plain (spliced_cons (Calls.Constant_str (pos := d) (k := 0) (spliced_nil ⟨hso₃, ?_⟩))))
  show wpAny _ _ (call (.ref h₂.objs.size) [_]) _ _ _
  -- all that stood at the entry but x is the base of the walk
  have hb0 : ∀ y o, hp.get? y = some o → y ≠ x → (hideAll hp [x]).get? y = some o := fun y o z n => hideAll_get _ z (by simpa using n)
  have hb1 : ∀ y o, (hideAll hp [x]).get? y = some o → hp.get? y = some o ∧ y ≠ x := fun y o z => ⟨of_hideAll _ z, fun q => by rw [q, hideAll_none _ (by simp)] at z; cases z⟩
  have X0 : K.In (hideAll hp [x]) := fun y o z => hb0 y o (X y o z) fun q => by rw [q, hnx] at z; cases z
  have k₃ : ∀ y o, h₁.get? y = some o → (h₂.push (kxs_mw "ValueError.__init__" x)).get? y = some o := fun y o z => Heap.get?_push_of_some _ (k₂ y o z)
  have F₃ : Fr (hideAll hp [x]) hp.objs.size (h₂.push (kxs_mw "ValueError.__init__" x)) _ := ⟨hns.at fun o q => k₃ _ o q, fun y o z => k₃ y o (hk₁ y o (hb1 y o z).1), by rw [hideAll_size]; exact Nat.le_refl _⟩
  have n2 : ∀ y, hp.objs.size ≤ y → (hideAll hp [x]).get? y = none := fun y n => by
    cases z : (hideAll hp [x]).get? y with
    | none => rfl
    | some o => exact absurd (Heap.lt_size (hb1 y o z).1) (Nat.not_lt.mpr n)
  have l2 : hp.objs.size < h₂.objs.size := Heap.lt_size (k₂ _ _ hns.choose_spec.choose_spec.choose_spec.1)
  have ux : h₂.objs.size ≠ x := fun q => absurd (Heap.lt_size hx) (by rw [← q]; exact Nat.not_lt.mpr (Nat.le_of_lt l2))
  have N₃ : News (hideAll hp [x]) hp.objs.size (h₂.push (kxs_mw "ValueError.__init__" x)) [(h₂.objs.size, kxs_mw "ValueError.__init__" x), (x, excObj C t0 none .none)] := by
    intro p hp'
    rcases List.mem_cons.mp hp' with rfl | hp'
    · exact ⟨hso₃, Nat.ne_of_gt l2, n2 _ (Nat.le_of_lt l2)⟩
    · obtain rfl := List.mem_singleton.mp hp'
      exact ⟨hx₃, hxL.symm, hideAll_none _ (by simp)⟩
  refine kxs_call (i := "ValueError.__init__") (c2 := .none) F₃ X0 N₃ F.excBase_ValueError T.exI (List.mem_cons_self ..) (.tail ux (.head (fun p hp => nomatch hp))) (by show 1 ≤ sizeLine; rw [sizeLine_eq]; decide) (fun t1 h₄ F₄ N₄ _ => ?_)
  have hx₄ : h₄.get? x = some (excO C t1) := (N₄ (x, excObj C t1 none .none) (by simp)).1
  have kk : ∀ b o, b ≠ x → hp.get? b = some o → h₄.get? b = some o := fun b o n z => F₄.keep b o (hb0 b o z n)
  -- self.f = f
  refine ks_wpAt_execs_cons (_root_.PySem.wpAt_of_wpAny ?_)
  have X₄ : K.In h₄ := X0.keeps F₄.keep
  have hns₄ : h₄.Ns hp.objs.size _ := F₄.ns
  show wpAny _ _ (exec (.Assign [.Attribute (.Name "self" g) f h] (.Name f i) j) _) _ _ _
  refine plainObj_wpAny_Assign_Attribute (wpAny_Name (wpAny_loadName_local (v := v) rfl lf hns₄ e2 (wpAny_Name (wpAny_loadName_local (v := .ref x) rfl lself hns₄ e1 ?_) (by decide +kernel))) n4) (by rfl)
  refine set_plain X₄ (ox := excO C t1) (od := none) ⟨hx₄, rfl, rfl, trivial⟩ T.sa ?_
  refine exc_osa X₄ hx₄ hcl (show refsVE (.ref C :: bm) = true from hbm) rfl T.noF (fun h₅ tk₅ dx k₅ dn dne hx₅ hn₅ => ?_)
  refine _root_.PySem.wpAt_of_wpAny (wpAny_execs_nil (hq h₅ tk₅ dx t1 ⟨fun b o n z => k₅ b o n (kk b o n z), hx₅, Nat.le_of_lt (Nat.lt_of_lt_of_le hns₄.lt dn), dne, hn₅⟩))
end
end OE
/-! The same without a field: __init__(self) with super().__init__(text). -/
namespace OE
open PySem PySem.W PySem.Calls PyProof.Rows PySem.HandSPX
def eA0 (p1 : Pos) : Arguments := { posonlyargs := [], args := [{ arg := "self", annotation := none, pos := p1 }], vararg := none, kwonlyargs := [], kw_defaults := [], kwarg := none, defaults := [] }
def eS0 : Scope := { kind := .function, names := [(PySem.Str.ofString "self", .local), (PySem.Str.ofString "__class__", .free), (PySem.Str.ofString "super", .globalImplicit)], isGenerator := false, isCoroutine := false, more := [] }
/-- what the written part says of the class at C, and of its __init__, at fI -/
structure Cl0 (P : Program) (K : Frag) (C fI : Addr) : Prop where
  cls : ∃ nm q N bs bm sn sub ab col dd k0 k1 k2 k3 k5, K.lookup C = some (excClassObj nm q C N bs bm true sn sub ab col dd k0 k1 k2 k3 k5 "ValueError.__new__") ∧ refsVE bm = true
  iC : findIn K (.ref C) "__init__" = some (some (.ref fI))
  tC : typeIn K (.ref fI) = some (.type "function")
  sup : ks_superIn K C C "__init__" = some (some (.builtin "ValueError.__init__"))
  sub : mroIn K C (.ref C) = some true
  exI : excInitIn K C [.type "ValueError", .type "Exception", .type "BaseException", .type "object"] "ValueError.__new__" = true
  subV : subIn K (.ref C) (.type "ValueError") = some true
  opq : nsIn K cStatics "thirdparty.any" = some none
  spr : nsIn K mainGlobals "super" = some none
  fn : ∃ (oc : Value) (od : Option Addr) (doc pm : Value) (an : Option Addr) (ct : Value) (osl : Array (Option Value)) (p1 : Pos) (tx : Str) (a b c d e e' : Pos) (qual : Str) (cc cda : Addr) (vs : Array Value) (file : Str) (tf : Tok) (ccl cl : Value) (cdd cld : Option Addr) (ccs csl : Array (Option Value)),
    K.lookup fI = some ⟨oc, od, .func (fnX "__init__" qual (eA0 p1) [eB0 tx a b c d e e'] eS0 [("__class__", cc)] .none .none doc pm an (.ref cda) ct), osl⟩ ∧ codeIn K (.ref cda) qual = true ∧
    (c.endLine == e.line) = true ∧ K.lookup cda = some ⟨ccl, cdd, .fields vs, ccs⟩ ∧ vs[2]? = some (.str file tf) ∧ ((P.main.file : Str) == file) = true ∧ K.lookup cc = some ⟨cl, cld, .cell (some (.ref C)), csl⟩
section
variable {P : Program} {w : World} {A : Around} {E : Value → Shared → Prop} {R : Result → Shared → Prop} {s : Shared} {K : Frag} {mg mb : Str → Option Value} {C fI : Addr}
theorem init0 (T : Cl0 P K C fI) {x t0 : Addr} {args : Args} (X : K.In s.heap) (hg : s.heap.Ns mainGlobals mg) (hb : s.heap.Ns builtinsNs mb) (hbi : ∀ x : Str, x ≠ "__name__" → mb x = bootBuiltins x) (htop : (P.main.scope.names.lookup ("super" : Str)).isSome = false)
    (hlim : s.heap.NoLimit) (hx : s.heap.get? x = some (excO C t0)) (hnx : K.lookup x = none) (hroom : A.depth < recursionLimit)
    (hbind : ∀ fd : FuncData, (∃ p1, fd.params = eA0 p1) → fd.defaults = .none → fd.kwdefaults = .none → BindsTo s fd args [("self", .ref x)])
    (hq : ∀ h' tk t1, (∀ b o, b ≠ x → s.heap.get? b = some o → h'.get? b = some o) → h'.get? x = some (excO C t1) → R (.ok (.ret .none)) { s with heap := h', toks := tk }) :
    codeAny (model P w) A (.call (.ref fI) args) R s := by
  obtain ⟨oc, od, doc, pm, an, ct, osl, p1, tx, a, b, c, d, e, e', qual, cc, cda, vs, file, tf, ccl, cl, cdd, cld, ccs, csl, ho, hcd, hline, hcode, hvs, hfile, hcell⟩ := T.fn
  obtain ⟨nm, q, N, bs, bm, sn, sub, ab, col, dd, k0, k1, k2, k3, k5, hC, hbm⟩ := T.cls
  have hcl : clsIn K C = some { name := nm, bases := bs, mro := .ref C :: bm, ns := N, qualname := q, hasDict := true, slotNames := sn, subclasses := sub, abstract := ab, collection := col, hasDel := false } := by unfold clsIn; rw [hC] <;> rfl
  have lself : eS0.names.lookup ("self" : Str) = some .local := by decide +kernel
  have lsup : eS0.names.lookup ("super" : Str) = some .globalImplicit := by decide +kernel
  have lcls : eS0.names.lookup ("__class__" : Str) = some .free := by decide +kernel
  have e1 : ([("self", Value.ref x)] : List (Str × Value)).reverse.lookup ("self" : Str) = some (Value.ref x) := by simp [List.lookup]
  refine ks_codeAny_call_defAt (fd := fnX "__init__" qual (eA0 p1) [eB0 tx a b c d e e'] eS0 [("__class__", cc)] .none .none doc pm an (.ref cda) ct) (body := [eB0 tx a b c d e e']) (binds := [("self", .ref x)])
    hroom (X _ _ ho) rfl hlim (codeRec_of X hcd) rfl (hbind _ ⟨_, rfl⟩ rfl rfl) ?_ ?_ (fun h₁ hns hk₁ => ?_)
  · intro y hy
    have z : eS0.names = [(PySem.Str.ofString "self", .local), (PySem.Str.ofString "__class__", .free), (PySem.Str.ofString "super", .globalImplicit)] := rfl
    rw [show (fnX "__init__" qual (eA0 p1) [eB0 tx a b c d e e'] eS0 [("__class__", cc)] .none .none doc pm an (.ref cda) ct).scope.names = _ from z] at hy
    simp only [List.mem_cons, List.not_mem_nil, or_false] at hy
    rcases hy with rfl | rfl | rfl <;> exact fun z => nomatch z
  · intro y hy
    simp only [List.mem_cons, List.not_mem_nil, or_false] at hy
    subst hy
    exact lself
  have X₁ : K.In h₁ := X.keeps hk₁
  have hx₁ := hk₁ _ _ hx
  have hxL : s.heap.objs.size ≠ x := Nat.ne_of_gt (Heap.lt_size hx)
  obtain ⟨hp, gs, dr, tk, os⟩ := s
  refine ks_wpAt_execs_cons ?_
  show _root_.PySem.wpAt _ _ _ (exec (.Expr (.Call (.Attribute (.Call (.Name "super" a) [] [] b) "__init__" c) [.Constant (.str tx) 0 d] [] e) e') _) _ _ _
  refine ks_wpAt_Expr_any ?_ (by rfl) (by rfl)
  refine ks_wpAt_MethodCall (pl := (do return (← importBound (.Call (.Name "super" a) [] [] b) (callEnv (fnX "__init__" qual (eA0 p1) [eB0 tx a b c d e e'] eS0 [("__class__", cc)] .none .none doc pm an (.ref cda) ct) hp.objs.size fI)).getD true)) ?_ (he_of hline)
  have hClo : h₁.get? C = some _ := X₁ _ _ hC
  -- super()
  refine ks_wpAt_super_base (env := callEnv (fnX "__init__" qual (eA0 p1) [eB0 tx a b c d e e'] eS0 [("__class__", cc)] .none .none doc pm an (.ref cda) ct) hp.objs.size fI) lsup lcls (by decide +kernel) rfl (X₁ _ _ ho) rfl rfl rfl (X₁ _ _ hcode) rfl hvs hfile htop ?_
  refine ks_loadName_global rfl lsup (loadGlobal_builtin (env := callEnv (fnX "__init__" qual (eA0 p1) [eB0 tx a b c d e e'] eS0 [("__class__", cc)] .none .none doc pm an (.ref cda) ct) hp.objs.size fI) (hg.keeps hk₁) (mg_none_of X hg T.spr) (hb.keeps hk₁) ((hbi _ (by decide +kernel)).trans (by decide +kernel)) ⟨rfl, ?_⟩)
  refine wpAny_loadName_free rfl lcls rfl ⟨_, X₁ _ _ hcell, rfl⟩ ?_
  refine wpAny_loadName_local (v := .ref x) rfl lself hns e1 ?_
  refine ks_wpAny_isType_cls hClo rfl ⟨rfl, ?_⟩
  refine ks_wpAny_call_super hClo rfl hx₁ rfl (fun c e => nomatch e) (looks_mroIn X₁ T.sub) (fun h₂ hso k₂ => ?_)
  have X₂ : K.In h₂ := X₁.keeps k₂
  have hx₂ := k₂ _ _ hx₁
  have I₂ : InstAt h₂ x (excO C t0) C none := ⟨hx₂, rfl, rfl, trivial⟩
  have hxC : x ≠ C := fun z => by rw [z, hC] at hnx; cases hnx
  -- .__init__
  refine kxs_getMethod kxs_ValueError hso (looks_opaque X₂ T.opq) (l₀ := .ref C :: bm) (l := ((Value.ref C :: bm).dropWhile (· != .ref C)).drop 1) (fun A Q E s k q => wpAny_bind ((looks_clsIn X₂ hcl) A _ E s k (wpAny_pure q))) rfl X₂ ?_ (I₂.type.andThen (looks_subIn X₂ T.subV)) hxC (by decide +kernel) ?_
  · have z := T.sup
    unfold ks_superIn at z
    rw [hcl] at z
    exact z
  -- its call
  show wpAny _ _ (callWith e (.ref h₂.objs.size) [] (backTo e (starEach [.Constant (.str tx) 0 d] _)) []) _ _ _
  have hso₃ : (h₂.push (kxs_mw "ValueError.__init__" x)).get? h₂.objs.size = some (kxs_mw "ValueError.__init__" x) := Heap.get?_push_at rfl rfl
  have hx₃ : (h₂.push (kxs_mw "ValueError.__init__" x)).get? x = some (excO C t0) := Heap.get?_push_of_some _ hx₂
  refine kxs_callWith (i := "ValueError.__init__") (x := x) rfl (evalArgs_plain (spliced_cons (Calls.Constant_str (pos := d) (k := 0) (spliced_nil ⟨hso₃, ?_⟩))))
  show wpAny _ _ (call (.ref h₂.objs.size) [_]) _ _ _
  -- all that stood at the entry but x is the base of the walk
  have hb0 : ∀ y o, hp.get? y = some o → y ≠ x → (hideAll hp [x]).get? y = some o := fun y o z n => hideAll_get _ z (by simpa using n)
  have hb1 : ∀ y o, (hideAll hp [x]).get? y = some o → hp.get? y = some o ∧ y ≠ x := fun y o z => ⟨of_hideAll _ z, fun q => by rw [q, hideAll_none _ (by simp)] at z; cases z⟩
  have X0 : K.In (hideAll hp [x]) := fun y o z => hb0 y o (X y o z) fun q => by rw [q, hnx] at z; cases z
  have k₃ : ∀ y o, h₁.get? y = some o → (h₂.push (kxs_mw "ValueError.__init__" x)).get? y = some o := fun y o z => Heap.get?_push_of_some _ (k₂ y o z)
  have F₃ : Fr (hideAll hp [x]) hp.objs.size (h₂.push (kxs_mw "ValueError.__init__" x)) _ := ⟨hns.at fun o q => k₃ _ o q, fun y o z => k₃ y o (hk₁ y o (hb1 y o z).1), by rw [hideAll_size]; exact Nat.le_refl _⟩
  have n2 : ∀ y, hp.objs.size ≤ y → (hideAll hp [x]).get? y = none := fun y n => by
    cases z : (hideAll hp [x]).get? y with
    | none => rfl
    | some o => exact absurd (Heap.lt_size (hb1 y o z).1) (Nat.not_lt.mpr n)
  have l2 : hp.objs.size < h₂.objs.size := Heap.lt_size (k₂ _ _ hns.choose_spec.choose_spec.choose_spec.1)
  have ux : h₂.objs.size ≠ x := fun q => absurd (Heap.lt_size hx) (by rw [← q]; exact Nat.not_lt.mpr (Nat.le_of_lt l2))
  have N₃ : News (hideAll hp [x]) hp.objs.size (h₂.push (kxs_mw "ValueError.__init__" x)) [(h₂.objs.size, kxs_mw "ValueError.__init__" x), (x, excObj C t0 none .none)] := by
    intro p hp'
    rcases List.mem_cons.mp hp' with rfl | hp'
    · exact ⟨hso₃, Nat.ne_of_gt l2, n2 _ (Nat.le_of_lt l2)⟩
    · obtain rfl := List.mem_singleton.mp hp'
      exact ⟨hx₃, hxL.symm, hideAll_none _ (by simp)⟩
  refine kxs_call (i := "ValueError.__init__") (c2 := .none) F₃ X0 N₃ F.excBase_ValueError T.exI (List.mem_cons_self ..) (.tail ux (.head (fun p hp => nomatch hp))) (by show 1 ≤ sizeLine; rw [sizeLine_eq]; decide) (fun t1 h₄ F₄ N₄ _ => ?_)
  have hx₄ : h₄.get? x = some (excO C t1) := (N₄ (x, excObj C t1 none .none) (by simp)).1
  have kk : ∀ b o, b ≠ x → hp.get? b = some o → h₄.get? b = some o := fun b o n z => F₄.keep b o (hb0 b o z n)
  exact _root_.PySem.wpAt_of_wpAny (wpAny_execs_nil (hq h₄ _ t1 kk hx₄))
end
end OE
namespace OE
open PySem PySem.Spec PyProof.Rows L2
/-! ### two new objects at once -/
section
variable {P : Program} {w : World} {fs ex : List Addr} {H : Hp} {h h' : Heap} {a b : Addr} {o u : HO}
theorem upd2_at {x : Addr} (ha : H a = none) (hb : H b = none) {v : HO} (e : H x = some v) : upd (upd H b u) a o x = some v := by
  rw [upd_ne (ne_of_none e ha), upd_ne (ne_of_none e hb)]
  exact e
theorem un2 (k : ∀ x z, h.get? x = some z → h'.get? x = some z) (na : h.get? a = none) (nb : h.get? b = none) (ha : H a = none) (hb : H b = none) : Un fs ex H (upd (upd H b u) a o) h h' := by
  have out : ∀ x z, h.get? x = some z → x ≠ a ∧ x ≠ b := fun x z e => ⟨fun q => (by rw [q, na] at e; cases e), fun q => (by rw [q, nb] at e; cases e)⟩
  constructor
  · exact fun x z e _ _ _ => k x z e
  · exact fun x z e _ _ _ => ⟨z.slots, k x z e⟩
  · intro x z e n _
    rw [upd_ne (out x z e).1, upd_ne (out x z e).2]
    exact n
  · exact fun x z e _ => ⟨z, k x z e⟩
  · exact fun x xs e => upd2_at ha hb e
  · exact fun x z v e => upd2_at ha hb e
  · exact fun x ps e => ⟨#[], by rw [upd2_at ha hb e]; simp⟩
theorem hok2 (ok : HOk P w H h) (k : ∀ x z, h.get? x = some z → h'.get? x = some z) (ha : H a = none) (hb : H b = none) (na : ObjOk P w (upd (upd H b u) a o) h' a o) (nb : ObjOk P w (upd (upd H b u) a o) h' b u) : HOk P w (upd (upd H b u) a o) h' := by
  intro x v e
  by_cases xa : x = a
  · subst xa
    rw [upd_same] at e
    cases e
    exact na
  · by_cases xb : x = b
    · subst xb
      rw [upd_ne xa, upd_same] at e
      cases e
      exact nb
    · rw [upd_ne xa, upd_ne xb] at e
      exact (ok x v e).stay (fun c z _ q => k c z q) (fun c q => upd2_at ha hb q) fun c xs q => upd2_at ha hb q
end
/-! ### an error as a value -/
/-- the error at a, of the class at C, keeps v as f -/
def Kept (H : Hp) (a C : Addr) (f : Str) (v : V) : Prop := ∃ d, H a = some (exo a C (some d)) ∧ H d = some (exd d [(f, v)])
def tMk (C : Addr) (f : Str) (te : TE) : TE := fun σ H Q => te σ H fun v H1 => ∀ a d, H1 a = none → H1 d = none → d ≠ a → Q (.ref a) (upd (upd H1 d (exd d [(f, v)])) a (exo a C (some d)))
/-- how the arguments of __init__ bind -/
def Bds (f : Str) : Prop := ∀ (fd : FuncData), (∃ p1 p2, fd.params = eA f p1 p2) → fd.defaults = .none → fd.kwdefaults = .none → ∀ (x : Addr) (u : Value), bindArgs fd ⟨[.ref x, u], []⟩ = pure ([("self", .ref x), (f, u)] : List (Str × Value)) ∧ bindArgs fd ⟨[.ref x], [(f, u)]⟩ = pure ([("self", .ref x), (f, u)] : List (Str × Value))
section
variable {X : Cx} {C fI : Addr} {f x : Str} {k : Nat}
theorem make_run {pins : List (Addr × Obj)} {σ : L2.St} {H : Hp} {s : Shared} {v : V} {u : Value} {xs : List Value} {kw : List (Str × Value)} {Q : VK} (T : Cl1 X.prog X.K C fI f) (hr : Room (k + 1) X.A) (htop : (X.prog.main.scope.names.lookup ("super" : Str)).isSome = false) (I : Inv X pins σ H s)
    (hl : xs.length ≤ sizeLine) (hbd : ∀ (fd : FuncData), (∃ p1 p2, fd.params = eA f p1 p2) → fd.defaults = .none → fd.kwdefaults = .none → ∀ (x : Addr), bindArgs fd ⟨.ref x :: xs, kw⟩ = pure ([("self", .ref x), (f, u)] : List (Str × Value))) (rv : RelV v u)
    (q : ∀ a d, H a = none → H d = none → d ≠ a → Q (.ref a) (upd (upd H d (exd d [(f, v)])) a (exo a C (some d)))) : wpAny (model X.prog X.w) X.A (call (.ref C) xs kw) (EP X pins σ Q) X.xe s := by
  obtain ⟨nm, qn, N, bs, bm, sn, sub, ab, col, dd, k0, k1, k2, k3, k5, hC, hbm⟩ := T.cls
  obtain ⟨mb, nb, hbi⟩ := I.mod.blt
  obtain ⟨hp, g, dr, tk, os⟩ := s
  have kp : ∀ b o, hp.get? b = some o → (newHp hp C xs).get? b = some o := fun b o e => Heap.get?_push_of_some _ (Heap.get?_push_of_some _ e)
  have bk : ∀ b o, X.base.get? b = some o → (newHp hp C xs).get? b = some o := fun b o e => kp b o (I.bk b o e)
  have ox : (newHp hp C xs).get? (hp.objs.size + 1) = some (PySem.HandSPX.excO C hp.objs.size) := by heap_get
  have KX : X.K.In (newHp hp C xs) := I.mod.kin.keeps bk
  have nx : hp.get? (hp.objs.size + 1) = none := Heap.get?_none_of_le (Nat.le_succ _)
  have nK : X.K.lookup (hp.objs.size + 1) = none := by
    cases z : X.K.lookup (hp.objs.size + 1) with
    | none => rfl
    | some o =>
      have y : hp.get? _ = some o := I.kIn _ _ z
      rw [nx] at y
      cases y
  refine wpAny_call (call_any F.excBase_ValueError (fun Y => PySem.HandSPX.refsVE_contains Y bm hbm) (I.kIn _ _ hC) hl (PySem.W.looks_findIn I.kIn T.iC) (fun self => PySem.W.bind_fn I.kIn self T.tC) ?_)
  refine init1 T (x := hp.objs.size + 1) (t0 := hp.objs.size) (v := u) KX (I.mod.glob.keeps bk) (nb.keeps bk) hbi htop (I.mod.nolimit.keeps bk) ox nK ?_ (fun fd h1 h2 h3 => BindsTo.of_eq (hbd fd h1 h2 h3 _)) ?_
  · rw [make_depth]
    have := hr.dp
    omega
  · intro h' tk' d t1 E
    have k' : ∀ b o, hp.get? b = some o → h'.get? b = some o := fun b o e => E.keep b o (Nat.ne_of_lt (Nat.lt_succ_of_lt (Heap.lt_size e))) (kp b o e)
    have hsz : (newHp hp C xs).objs.size = hp.objs.size + 2 := by rw [newHp, Heap.size_push, Heap.size_push]
    have db := E.dbig
    have db2 : hp.objs.size ≤ d := by
      have z : (newHp hp C xs).objs.size ≤ d := db
      omega
    have nd : hp.get? d = none := Heap.get?_none_of_le db2
    have ha : H (hp.objs.size + 1) = none := I.hok.fresh (Nat.le_succ _)
    have hd : H d = none := I.hok.fresh db2
    refine ⟨rfl, .ref (hp.objs.size + 1), _, I.un (t' := tk') (un2 k' nx nd ha hd) (hok2 I.hok k' ha hd (exo_ok E.obj) (exd_ok E.ns fun g => ?_)), rfl, q _ d ha hd E.dne⟩
    exact relO_put (fs := []) (mA := fun _ => none) rv (fun _ => True.intro) g
end
end OE
/-! The draws of the laws by a stream of three numbers, the last of which counts. -/
namespace OB
open PySem PySem.Spec PyProof.Rows L2
def top (i : Nat) : Stmt := PySem.Challenge.pw_oldaddress_k68_whole_late_begins.main.body.getD i (.Pass ⟨0, 0, 0, 0⟩)
abbrev sStream : Stmt := top 27
abbrev sDraw : Stmt := top 28
abbrev sPick : Stmt := top 29
/-- at p a stream that drew at most n times -/
def Src (n : Nat) (H : Hp) (p : Addr) : Prop := ∃ d s c : Int, H p = some (.lst [.int d, .int s, .int c]) ∧ 0 ≤ s ∧ s < 4294967296 ∧ 0 ≤ c ∧ c ≤ (n : Int)
theorem Src.mono {n m : Nat} {H : Hp} {p : Addr} (h : Src n H p) (l : n ≤ m) : Src m H p := by
  obtain ⟨d, s, c, a1, a2, a3, a4, a5⟩ := h
  exact ⟨d, s, c, a1, a2, a3, a4, by omega⟩
/-- all but the stream stands -/
def ButS (p : Addr) (H H' : Hp) : Prop := ∀ b o, b ≠ p → H b = some o → H' b = some o
theorem ButS.refl {p : Addr} {H : Hp} : ButS p H H := fun _ _ _ h => h
theorem ButS.trans {p : Addr} {H H1 H2 : Hp} (a : ButS p H H1) (b : ButS p H1 H2) : ButS p H H2 := fun x o n e => b x o n (a x o n e)
theorem ButS.same {p : Addr} {H H' : Hp} (a : Same H H') : ButS p H H' := fun x o _ e => a x o e
theorem ButS.put {p : Addr} {H : Hp} {u : HO} : ButS p H (upd H p u) := fun b o h e => by
  rw [upd_ne h]
  exact e
theorem Same.new {H : Hp} {q : Addr} {u : HO} (h : H q = none) : Same H (upd H q u) := fun b o e => by
  rw [upd_ne (ne_of_none e h)]
  exact e
/-- a comprehension whose list is known turn by turn -/
def AccP (D : Addr) (H1 : Hp) (acc : Nat → List V) (i : Nat) (H : Hp) : Prop := ButS D H1 H ∧ H D = some (.lst (acc i))
theorem acc_start {D : Addr} {H1 : Hp} {acc : Nat → List V} (a0 : acc 0 = []) : AccP D H1 acc 0 (upd H1 D (.lst [])) := ⟨ButS.put, by rw [a0]; exact upd_same⟩
theorem acc_in {D : Addr} {H1 H H4 : Hp} {acc : Nat → List V} {i : Nat} {y : V} (q : AccP D H1 acc i H) (e : Same H H4) (l : (acc i).length < sizeLine) (h : acc (i + 1) = acc i ++ [y]) : ∃ a, H4 D = some (.lst a) ∧ a.length < sizeLine ∧ AccP D H1 acc (i + 1) (upd H4 D (.lst (a ++ [y]))) :=
  ⟨acc i, e _ _ q.2, l, (q.1.trans (ButS.same e)).trans ButS.put, by rw [upd_same, h]⟩
theorem acc_out {D : Addr} {H1 H H3 : Hp} {acc : Nat → List V} {i : Nat} (q : AccP D H1 acc i H) (e : Same H H3) (h : acc (i + 1) = acc i) : AccP D H1 acc (i + 1) H3 := ⟨q.1.trans (ButS.same e), by rw [h]; exact e _ _ q.2⟩
theorem acc_same {D : Addr} {H0 H1 H : Hp} {acc : Nat → List V} {i : Nat} (q : AccP D H1 acc i H) (e : Same H0 H1) (n : H1 D = none) : Same H0 H := fun b o h => q.1 b o (ne_of_none (e _ _ h) n) (e _ _ h)
/-- the list that a map makes, turn by turn -/
def mapTo (xs : List V) (i : Nat) : List V := xs.take i
theorem mapTo_succ {xs : List V} {i : Nat} {y : V} (h : xs[i]? = some y) : mapTo xs (i + 1) = mapTo xs i ++ [y] := by
  unfold mapTo
  rw [List.take_add_one, h]
  rfl
theorem mapTo_len {xs : List V} {i n : Nat} (h : xs.length < n) : (mapTo xs i).length < n := by
  unfold mapTo
  rw [List.length_take]
  omega
theorem mapTo_all {xs : List V} : mapTo xs xs.length = xs := List.take_length ..
end OB
namespace OB
open PySem PySem.Spec PyProof.Rows L2
structure TxtD (mg : Str → Option Value) : Prop where
  abs : mg "abs" = none
  int : mg "int" = none
  sum : mg "sum" = none
  list : mg "list" = none
  len : mg "len" = none
  rng : mg "range" = none
  en : mg "enumerate" = none
def spStream (K : PySem.W.Frag) : Sp := fun vs H Q _ => ∃ (a : Addr) (k : Nat) (ns : List Int), vs = [.ref a, .int (k : Int)] ∧ SqL K H a (ns.map V.int) ∧ ns.length ≤ 100 ∧ k < 1000 ∧ ∀ H' p, H p = none → Same H H' → Src 0 H' p → Q (.ref p) H'
section
variable {P : Program} {w : World} {K : PySem.W.Frag} {mg : Str → Option Value} {base : Heap}
theorem scStream : FnScope ["script", "k", "cell", "mixed", "at", "one"] ["script", "k"] (defScope sStream) := ⟨rfl, rfl, rfl, by decide +kernel, rfl, by decide +kernel, by decide +kernel⟩
theorem cut_int (ns : List Int) (o : Option Int) : ∃ ms : List Int, cutV (ns.map V.int) none o = ms.map V.int := ⟨(ns.drop (HT.sIx ns.length 0 none)).take (HT.sIx ns.length ns.length o - HT.sIx ns.length 0 none), by simp [cutV, List.map_take, List.map_drop]⟩
theorem pe_imp {X : Cx} {e : Expr} {t t' : TE} (h : PE X e t) (i : ∀ σ H Q, t' σ H Q → t σ H Q) : PE X e t' := ⟨fun pins s σ H Q I q => h.run pins s σ H Q I (i _ _ _ q)⟩
def mixI (ns : List Int) : List Int := ns.zipIdx.map fun y => ((y.2 : Int) + 1) * (if y.1 < 0 then -y.1 else y.1)
def mixL (ns : List Int) : List V := ns.zipIdx.map fun y => V.int (((y.2 : Int) + 1) * (if y.1 < 0 then -y.1 else y.1))
theorem mixL_int (ns : List Int) : mixL ns = (mixI ns).map V.int := by
  unfold mixL mixI
  rw [List.map_map]
  rfl
def tCell (K : PySem.W.Frag) : TE := fun σ H Q => ∃ (a : Addr) (k : Nat) (ns : List Int), σ[0]? = some (some (.ref a)) ∧ σ[1]? = some (some (.int (k : Int))) ∧ SqL K H a (ns.map V.int) ∧ k < 1000 ∧ ∀ c H', Same H H' → Q (.int c) H'
theorem ok_stream {f : Addr} {fd : FuncData} (F : Fun K "_law_stream" "_law_stream" sStream f fd) (T : TxtD mg) : FnOk P w K mg base CX0 1 f fd ["script", "k"] (spStream K) := by
  refine F.ok scStream (fun vs H Q E h => ?_) (fun cdv A outer s H vs Q E hr h => ?_)
  · obtain ⟨a, k, ns, rfl, _⟩ := h
    rfl
  · obtain ⟨a, k, ns, rfl, hs, hn, hk, q⟩ := h
    have nd := scStream.nd
    refine ⟨_, pss_cons (ps_set (i := 2) nd rfl (Or.inl rfl) (pe_imp (t' := tCell K) (pe_ifExp (pt_cmpR op_lt (pv 1) (pe_callB call_len_seq (by rfl) T.len PySem.boot_len (pa_cons (pv 0) pa_nil)) (nomark _)) (pe_callB call_abs (by rfl) T.abs (by decide +kernel) (pa_cons (pe_ix ix_list (pv 0) (pv 1) (fun _ _ => rfl)) pa_nil))
        (pe_op op_add (pe_op op_mod (pe_callTy call_int1 (by rfl) T.int (by decide +kernel) (pa_cons (pe_callB (cr_sum rfl) (by rfl) T.sum (by decide +kernel) (pa_cons (pe_slice sl_list (pv 0) po_none (po_some pe_int)) pa_nil)) pa_nil)) pe_int) (pe_op op_mul pe_int (pv 1)))) (fun σ G Q h => ?_)))
      (pss_cons (ps_set (i := 3) nd rfl (Or.inl rfl) (pe_op op_mod (pe_callB (cr_sum rfl) (by rfl) T.sum (by decide +kernel) (pa_cons (pe_lc (own := [("at", 4), ("one", 5)]) (g := gTup K 2 (gCons (gName 4) (gCons (gName 5) gNil))) (tt := tYes) rfl nd (pi_enum (by rfl) T.en (pa_cons (pv 0) pa_nil))
          (blkOk_by (N := ["script", "k", "cell", "mixed", "at", "one"]) (sc := defScope sStream) (by decide +kernel)) (fun _ _ _ _ _ => pg_tup rfl (pgs_cons (pg_name (i := 4) nd rfl (Or.inl rfl)) (pgs_cons (pg_name (i := 5) nd rfl (Or.inl rfl)) pgs_nil))) (fun _ _ _ _ _ => pts_nil)
          (fun _ _ _ _ _ => pe_op op_mul (pe_op op_add (pv 4) pe_int) (pe_callTy call_int1 (by rfl) T.int (by decide +kernel) (pa_cons (pe_callB call_abs (by rfl) T.abs (by decide +kernel) (pa_cons (pv 5) pa_nil)) pa_nil)))) pa_nil)) pe_int))
      (pss_one (ps_ret (pe_lst (pa_cons (pe_ifExp (pt_cmpR op_ge (pv 2) (pe_op op_pow pe_int pe_int) (nomark _)) (pv 2) pe_int)
        (pa_cons (pe_op op_add (pe_op op_mod (pe_callTy call_int1 (by rfl) T.int (by decide +kernel) (pa_cons (pe_op op_add (pv 2) (pv 3)) pa_nil)) pe_int) (pe_op op_mul pe_int (pv 1))) (pa_cons pe_int pa_nil))))))), ?_⟩
    · obtain ⟨a, k, ns, s0, s1, hs, hk, q⟩ := h
      refine ⟨_, s1, _, s0, a, _, rfl, .inl hs, k, _, rfl, rfl, _, rfl, ?_⟩
      refine ite2 (fun h => ?_) (fun h => ?_)
      · have hk2 : k < ns.length := by
          have z := of_decide_eq_true h
          rw [List.length_map] at z
          omega
        exact ⟨_, s0, _, s1, a, _, k, .int ns[k], rfl, rfl, hs, atI_nat (by rw [List.getElem?_map, List.getElem?_eq_getElem hk2] <;> rfl), _, rfl, q _ _ (Same.refl _)⟩
      · refine ⟨_, s0, 1, rfl, a, _, rfl, hs, fun b nb => ?_⟩
        obtain ⟨ms, hm⟩ := cut_int ns (some 1)
        rw [hm]
        exact ⟨b, ms, rfl, SqL.of upd_same, .inl ⟨_, rfl, _, 1000003, rfl, rfl, (by show (0 : Int) < 1000003; decide), _, s1, 7, k, rfl, rfl, .inl ⟨by decide, by decide⟩, _, _, rfl, rfl, q _ _ (Same.new nb)⟩⟩
    · refine ⟨a, k, ns, rfl, rfl, hs, hk, fun c H1 e1 => ?_⟩
      show tSeq _ _ _ ([some (.ref a), some (.int k), some (.int c), none, none, none] : L2.St) H1
      have hs1 : SqL K H1 a (ns.map V.int) := Same.seq e1 hs
      refine ⟨_, rfl, a, _, rfl, hs1, fun D nD => ?_⟩
      have nA : ∀ {i : Nat} {G : Hp}, AccP D H1 (mapTo (mixL ns)) i G → SqL K G a (ns.map V.int) := fun q => Same.seq (acc_same q (Same.refl H1) nD) hs1
      have lm : (mixL ns).length = (ns.map V.int).length := by simp [mixL]
      refine lc_it walk_enum (AccP D H1 (mapTo (mixL ns))) (acc_start rfl) (fun i G _ z => nA z) (fun i x G G' hi z y => ?_) (fun G z => ?_)
      · obtain ⟨TT, x1, x2, rfl, hT, rfl, hx, hy⟩ := y
        obtain rfl : V.int (i : Nat) = x1 := Option.some.inj hx
        rw [List.length_map] at hi
        have hy : (ns.map V.int)[i]? = some x2 := hy
        have hy2 : x2 = V.int ns[i] := by
          rw [List.getElem?_map, List.getElem?_eq_getElem hi] at hy
          exact (Option.some.inj hy).symm
        subst hy2
        refine ⟨TT, _, rfl, SqT.of upd_same, rfl, .int (i : Nat), _, rfl, .int ns[i], _, rfl, rfl, rfl, ?_⟩
        dsimp only [tYes]
        rw [if_pos rfl]
        refine ⟨_, rfl, _, _, rfl, rfl, _, rfl, _, rfl, .inl ⟨_, rfl, _, _, rfl, rfl, .inl ⟨by omega, by omega⟩, acc_in z (Same.new hT) (mapTo_len (by rw [lm, List.length_map, sizeLine_eq]; omega)) (mapTo_succ ?_)⟩⟩
        simp [mixL, hi]
      · rw [← lm] at z
        have gD : G D = some (.lst (mixL ns)) := by
          rw [z.2, mapTo_all]
        have e2 : Same H G := acc_same z e1 nD
        refine ⟨D, mixI ns, rfl, SqL.of (by rw [gD, mixL_int]), ?_⟩
        generalize (mixI ns).sum = m
        refine ⟨_, _, rfl, rfl, (by show (0 : Int) < 2147483647; decide), ?_⟩
        have m0 := Int.emod_nonneg m (show (2147483647 : Int) ≠ 0 by decide)
        obtain ⟨mx, hmx⟩ : ∃ mx, mx = m % 2147483647 := ⟨_, rfl⟩
        have fin : ∀ d : Int, ∀ p, G p = none → Q (.ref p) (upd G p (.lst [.int d, .int ((c + mx) % 2147483647 + 31 * k), .int 0])) := fun d p hp => by
          refine q _ p (e2.free hp) (e2.trans (Same.new hp)) ⟨d, _, 0, upd_same, ?_, ?_, by omega, by omega⟩
          · have := Int.emod_nonneg (c + mx) (show (2147483647 : Int) ≠ 0 by decide)
            omega
          · have := Int.emod_lt_of_pos (c + mx) (show (0 : Int) < 2147483647 by decide)
            omega
        refine ⟨_, rfl, 10, 18, rfl, rfl, ⟨by decide, by decide, by decide⟩, c, _, rfl, rfl, _, rfl, ?_⟩
        refine ite2 (fun h => ⟨_, rfl, ?_⟩) (fun h => ?_)
        all_goals exact ⟨_, rfl, _, rfl, c, mx, rfl, (by rw [hmx]), .inl ⟨_, rfl, _, 2147483647, rfl, rfl, (by show (0 : Int) < 2147483647; decide), _, rfl, 31, k, rfl, rfl, .inl ⟨by decide, by decide⟩, _, _, rfl, rfl, by show 3 ≤ sizeLine; decide, fun p hp => fin _ p hp⟩⟩
end
end OB
namespace OB
open PySem PySem.Spec PyProof.Rows L2
theorem SqL.but {K : PySem.W.Frag} {p t : Addr} {H H' : Hp} {xs : List V} (h : SqL K H t xs) (n : t ≠ p) (b : ButS p H H') : SqL K H' t xs := by
  rcases h with (h | ⟨o, h⟩) | h
  · exact .inl (.inl (b _ _ n h))
  · exact .inl (.inr ⟨o, b _ _ n h⟩)
  · exact .inr h
theorem Src.but {n : Nat} {p : Addr} {H : Hp} {q : Addr} {u : HO} (h : Src n H p) (e : H q = none) : Src n (upd H q u) p := by
  obtain ⟨d, s, c, h, r⟩ := h
  exact ⟨d, s, c, by rw [upd_ne (ne_of_none h e)]; exact h, r⟩
theorem Src.ne {n : Nat} {p : Addr} {H : Hp} {q : Addr} (h : Src n H p) (e : H q = none) : q ≠ p := fun z => by
  obtain ⟨d, s, c, h, r⟩ := h
  rw [z, h] at e
  cases e
theorem Src.put {n : Nat} {p : Addr} {H : Hp} {q : Addr} {u : HO} (h : Src n H p) (e : q ≠ p) : Src n (upd H q u) p := by
  obtain ⟨d, s, c, h, r⟩ := h
  exact ⟨d, s, c, by rw [upd_ne e.symm]; exact h, r⟩
theorem Src.same {n : Nat} {p : Addr} {H H' : Hp} (S : Src n H p) (e : Same H H') : Src n H' p := by
  obtain ⟨a, b, c, hp, r⟩ := S
  exact ⟨a, b, c, e _ _ hp, r⟩
theorem Src.free {n : Nat} {p : Addr} {H H' : Hp} {q : Addr} (S : Src n H' p) (b : ButS p H H') (h : H' q = none) : H q = none := by
  cases e : H q with
  | none => rfl
  | some o =>
    have z := b q o (S.ne h) e
    rw [h] at z
    cases z
def spDraw : Sp := fun vs H Q _ => ∃ (p : Addr) (many : Int) (n : Nat), vs = [.ref p, .int many] ∧ Src n H p ∧ n < 1000000000 ∧ 0 < many ∧ many.natAbs < 2 ^ 4096 ∧ ∀ H' m, ButS p H H' → Src (n + 1) H' p → 0 ≤ m → m < many → Q (.int m) H'
def spPick (K : PySem.W.Frag) : Sp := fun vs H Q _ => ∃ (p t : Addr) (xs : List V) (n : Nat), vs = [.ref p, .ref t] ∧ Src n H p ∧ n < 1000000000 ∧ SqL K H t xs ∧ t ≠ p ∧ 0 < xs.length ∧ xs.length < 1000000 ∧
  ∀ H' (j : Nat) x, ButS p H H' → Src (n + 1) H' p → xs[j]? = some x → Q x H'
theorem small_many {n : Nat} (h : n < 1000000) : ((n : Int)).natAbs < 2 ^ 4096 := by
  have e : ((n : Int)).natAbs = n := Int.natAbs_natCast n
  rw [e]
  exact Nat.lt_of_lt_of_le h (Nat.le_trans (by decide : 1000000 ≤ 2 ^ 20) (Nat.pow_le_pow_right (by decide) (by decide)))
section
variable {P : Program} {w : World} {K : PySem.W.Frag} {mg : Str → Option Value} {base : Heap}
theorem scDraw : FnScope ["stream", "many", "digit", "spread"] ["stream", "many"] (defScope sDraw) := ⟨rfl, rfl, rfl, by decide +kernel, rfl, by decide +kernel, by decide +kernel⟩
theorem ok_draw {f : Addr} {fd : FuncData} (F : Fun K "_law_draw" "_law_draw" sDraw f fd) (T : TxtD mg) : FnOk P w K mg base CX0 1 f fd ["stream", "many"] spDraw := by
  refine F.ok scDraw (fun vs H Q E h => ?_) (fun cdv A outer s H vs Q E hr h => ?_)
  · obtain ⟨p, many, n, rfl, _⟩ := h
    rfl
  · obtain ⟨p, many, n, rfl, ⟨d, sd, c, S, s0, s1, c0, c1⟩, hn, hm, hm2, k⟩ := h
    have nd := scDraw.nd
    refine ⟨_, pss_cons (ps_if (pt_cmpR op_gt (pe_ix ix_list (pv 0) pe_int (fun _ _ => rfl)) pe_int (nomark _))
        (pss_cons (ps_set (i := 2) nd rfl (Or.inl rfl) (pe_op op_mod (pe_callTy call_int1 (by rfl) T.int (by decide +kernel) (pa_cons (pe_ix ix_list (pv 0) pe_int (fun _ _ => rfl)) pa_nil)) (pv 1)))
        (pss_cons (ps_asg (pe_op op_fdivW (pe_ix ix_list (pv 0) pe_int (fun _ _ => rfl)) (pv 1)) (pg_sub (pv 0) pe_int set_list))
        (pss_one (ps_ret (pv 2))))) pss_nil)
      (pss_cons (ps_asg (pe_op op_add (pe_ix ix_list (pv 0) pe_int (fun _ _ => rfl)) pe_int) (pg_sub (pv 0) pe_int set_list))
      (pss_cons (ps_set (i := 3) nd rfl (Or.inl rfl) (pe_op op_mod (pe_op op_pow (pe_callTy call_int1 (by rfl) T.int (by decide +kernel) (pa_cons (pe_op op_add (pe_op op_add (pe_ix ix_list (pv 0) pe_int (fun _ _ => rfl)) (pe_op op_mul pe_int (pe_ix ix_list (pv 0) pe_int (fun _ _ => rfl)))) pe_int) pa_nil)) pe_int) pe_int))
      (pss_one (ps_ret (pe_op op_mod (pe_op op_fdiv (pe_op op_mod (pe_callTy call_int1 (by rfl) T.int (by decide +kernel) (pa_cons (pe_op op_mul (pe_op op_add (pv 3) (pe_ix ix_list (pv 0) pe_int (fun _ _ => rfl))) pe_int) pa_nil)) pe_int) pe_int) (pv 1)))))), ?_⟩
    refine ⟨_, rfl, p, _, 0, .int d, rfl, rfl, SqL.of S, rfl, d, 0, rfl, rfl, _, rfl, ?_⟩
    refine ite2 (fun h => ?_) (fun h => ?_)
    · refine ⟨_, rfl, p, _, 0, .int d, rfl, rfl, SqL.of S, rfl, .inl ⟨d, rfl, _, rfl, d, many, rfl, rfl, hm, ?_⟩⟩
      refine ⟨_, rfl, p, _, 0, .int d, rfl, rfl, SqL.of S, rfl, _, rfl, d, many, rfl, rfl, wide_div hm hm2 (by decide) (by decide), _, rfl, p, _, 0, 0, rfl, rfl, S, rfl, ?_⟩
      exact ⟨_, rfl, k _ (d % many) ButS.put ⟨_, _, _, upd_same, s0, s1, c0, by omega⟩ (Int.emod_nonneg _ (by omega)) (Int.emod_lt_of_pos _ hm)⟩
    · refine ⟨_, rfl, p, _, 2, .int c, rfl, rfl, SqL.of S, rfl, c, 1, rfl, rfl, _, rfl, p, _, 2, 2, rfl, rfl, S, rfl, ?_⟩
      have B : ButS p H (upd H p (.lst [.int d, .int sd, .int (c + 1)])) := ButS.put
      have S2 : (upd H p (.lst [.int d, .int sd, .int (c + 1)])) p = some (.lst [.int d, .int sd, .int (c + 1)]) := upd_same
      show tSeq _ _ _ _ (upd H p (.lst [.int d, .int sd, .int (c + 1)]))
      generalize upd H p (.lst [.int d, .int sd, .int (c + 1)]) = H2 at B S2 ⊢
      have bound : -(2 ^ 64) < sd + 7919 * (c + 1) + 104729 ∧ sd + 7919 * (c + 1) + 104729 < 2 ^ 64 := by
        have : (n : Int) < 1000000000 := by omega
        constructor <;> omega
      refine ⟨_, rfl, p, _, 1, .int sd, rfl, rfl, SqL.of S2, rfl, _, rfl, p, _, 2, .int (c + 1), rfl, rfl, SqL.of S2, rfl, 7919, c + 1, rfl, rfl, .inl ⟨by decide, by decide⟩, sd, _, rfl, rfl, _, 104729, rfl, rfl, .inl ⟨_, rfl, _, 5, rfl, rfl, ⟨by decide, by decide, by omega⟩, _, 2147483647, rfl, rfl, (by show (0 : Int) < 2147483647; decide), ?_⟩⟩
      refine ⟨_, rfl, _, rfl, p, _, 2, .int (c + 1), rfl, rfl, SqL.of S2, rfl, _, c + 1, rfl, rfl, _, 40692, rfl, rfl, .inr ⟨by decide, by decide⟩, .inl ⟨_, rfl, _, 2147483629, rfl, rfl, (by show (0 : Int) < 2147483629; decide), _, 7, rfl, rfl, ⟨by decide, by decide⟩, _, rfl, _, many, rfl, rfl, hm, ?_⟩⟩
      exact k _ _ B ⟨_, _, _, S2, s0, s1, by omega, by omega⟩ (Int.emod_nonneg _ (by omega)) (Int.emod_lt_of_pos _ hm)
theorem scPick : FnScope ["stream", "things"] ["stream", "things"] (defScope sPick) := ⟨rfl, rfl, rfl, by decide +kernel, rfl, by decide +kernel, by decide +kernel⟩
theorem ok_pick {f fD : Addr} {fd fdD : FuncData} (F : Fun K "_law_pick" "_law_pick" sPick f fd) (T : TxtD mg) (GD : FnOk P w K mg base CX0 1 fD fdD ["stream", "many"] spDraw) (gD : mg "_law_draw" = some (.ref fD)) (kD : PySem.W.keepIn K (.ref fD) = true) (bD : Binds K fdD ["stream", "many"] []) : FnOk P w K mg base CX0 2 f fd ["stream", "things"] (spPick K) := by
  refine F.ok scPick (fun vs H Q E h => ?_) (fun cdv A outer s H vs Q E hr h => ?_)
  · obtain ⟨p, t, xs, n, rfl, _⟩ := h
    rfl
  · obtain ⟨p, t, xs, n, rfl, S, hn, ht, nt, x1, x2, k⟩ := h
    refine ⟨_, pss_one (ps_ret (pe_ix ix_list (pv 1) (pe_call GD hr (by rfl) gD kD bD .nil pass0 (pa_cons (pv 0) (pa_cons (pe_callB call_len_seq (by rfl) T.len PySem.boot_len (pa_cons (pv 1) pa_nil)) pa_nil))) (fun _ _ => rfl))), ?_⟩
    refine ⟨_, rfl, _, rfl, _, rfl, t, xs, rfl, .inl ht, p, (xs.length : Int), n, rfl, S, hn, by omega, small_many x2, fun H' m B S' h1 h2 => ?_⟩
    have e : (m.toNat : Int) = m := Int.toNat_of_nonneg h1
    have hj : m.toNat < xs.length := by omega
    obtain ⟨x, q⟩ : ∃ x, xs[m.toNat]? = some x := ⟨_, List.getElem?_eq_getElem hj⟩
    exact ⟨t, xs, m, x, rfl, rfl, SqL.but ht nt B, e ▸ atI_nat q, k _ _ _ B S' q⟩
end
end OB
namespace OB
open PySem PySem.Spec PyProof.Rows
open Sem (wp)
/-! ### isinstance of a def -/
theorem fn_class : typeLookup (.type "function") "__class__" = pure (some (.builtin "object.__class__")) := by
  rw [typeLookup_type, builtinLookup_eq_fast]
  kernel_rfl
theorem fn_owner : isSubtype (.type "function") (.type (".".intercalate ("object.__class__".cutAt '.').dropLast)) = pure true := by
  rw [F.owner_object_class, isSubtype_type]
  kernel_rfl
theorem fn_slot : Slot "function" "__getattribute__" "object.__getattribute__" := by
  refine Slot.of (owner := "object") (n := "__getattribute__") ?_ (by decide +kernel) (by decide +kernel) (by decide +kernel) ?_ ?_
  · rw [typeLookup_type, builtinLookup_eq_fast]
    kernel_rfl
  · first
      | exact .inl (by decide +kernel)
      | exact .inr (by decide +kernel)
  · rw [isSubtype_type]
    kernel_rfl
section
variable {prog : Program} {w : World} {A : Around} {E : Value → Shared → Prop} {h : Heap} {g : Array GenState} {d : Drawn} {t : Nat} {os : OsState} {a : Addr} {o : Obj}
theorem fn_get {R : Result → Shared → Prop} (hx : h.get? a = some o) (hc : o.cls = .type "function") (hq : R (.ok (.ret (.type "function"))) ⟨h, g, d, t, os⟩) :
    codeAny (model prog w) A (.call (.builtin "getset_descriptor.__get__") ⟨[.builtin "object.__class__", .ref a, .type "function"], []⟩) R ⟨h, g, d, t, os⟩ := by
  have isF : (⟨h, g, d, t, os⟩ : Shared).TypeIs (.ref a) "function" := ⟨_, hx, hc⟩
  have isD : (⟨h, g, d, t, os⟩ : Shared).TypeIs (.builtin "object.__class__") "getset_descriptor" := F.typeOf_object_class
  have own := fn_owner
  refine codeAny_call_builtin F.slot_gs_get.plain F.entry_gs_get (F.slot_gs_get.check _ _ _ _ _ _ _ _ isD (F.args_gs_get _ _ _) ?_)
  repeat any_goals first | assumption | wp_step
  refine ⟨Code.quiet_builtin _ (by decide +kernel), codeAny_builtin F.entry_object_class ?_⟩
  repeat any_goals first | assumption | wp_step
theorem fn_entry {tk : Tok} {Q : Fin → Shared → Prop} (hx : h.get? a = some o) (hc : o.cls = .type "function") (hq : Q (.done (.ret (.type "function"))) ⟨h, g, d, t, os⟩) :
    wpAny (model prog w) A (Builtin.«object.__getattribute__» ⟨[.ref a, .str "__class__" tk], []⟩) Q E ⟨h, g, d, t, os⟩ := by
  have isF : (⟨h, g, d, t, os⟩ : Shared).TypeIs (.ref a) "function" := ⟨_, hx, hc⟩
  have isD : (⟨h, g, d, t, os⟩ : Shared).TypeIs (.builtin "object.__class__") "getset_descriptor" := F.typeOf_object_class
  have k1 := fn_class
  have k2 := F.typeOf_object_class
  have k3 := F.slot_gs_get.lookup
  have k4 := F.slot_gs_set.lookup
  repeat any_goals first | assumption | wp_step
  refine fn_get hx hc ?_
  repeat any_goals first | assumption | wp_step
theorem fn_call {tk : Tok} {R : Result → Shared → Prop} (hx : h.get? a = some o) (hc : o.cls = .type "function") (hq : R (.ok (.ret (.type "function"))) ⟨h, g, d, t, os⟩) :
    codeAny (model prog w) A (.call (.builtin "object.__getattribute__") ⟨[.ref a, .str "__class__" tk], []⟩) R ⟨h, g, d, t, os⟩ := by
  have isF : (⟨h, g, d, t, os⟩ : Shared).TypeIs (.ref a) "function" := ⟨_, hx, hc⟩
  exact codeAny_call_builtin fn_slot.plain F.entry_object_getattribute (fn_slot.check _ _ _ _ _ _ _ _ isF (F.args_object_getattribute_2 _ _) (fn_entry hx hc hq))
theorem fn_by {tk : Tok} {Q : Value → Shared → Prop} (hx : h.get? a = some o) (hc : o.cls = .type "function") (hq : Q (.type "function") ⟨h, g, d, t, os⟩) : wpAny (model prog w) A (getAttrBy (.ref a) (.str "__class__" tk) false) Q E ⟨h, g, d, t, os⟩ := by
  have isF : (⟨h, g, d, t, os⟩ : Shared).TypeIs (.ref a) "function" := ⟨_, hx, hc⟩
  have k1 := fn_slot.lookup
  have k2 := fn_slot.bind (.ref a)
  repeat any_goals first | assumption | wp_step
  refine fn_call hx hc ?_
  repeat any_goals first | assumption | wp_step
theorem fn_attr {Q : Option Value → Shared → Prop} (hx : h.get? a = some o) (hc : o.cls = .type "function") (hq : Q (some (.type "function")) ⟨h, g, d, t + 1, os⟩) : wpAny (model prog w) A (getAttr? (.ref a) "__class__") Q E ⟨h, g, d, t, os⟩ := by
  unfold getAttr? getAttrBy?
  repeat any_goals first | assumption | with_reducible apply fn_by hx hc | wp_step
theorem kit_fn {K : PySem.W.Frag} {a : Addr} : PySem.W.KitX K (.ref a) (.type "function") (PySem.W.KitAt a "function") := PySem.W.kitx_of PySem.W.kitAt_ty (fun {_ _ _ _ _ s} p k => by
  obtain ⟨h, g, d, t, os⟩ := s
  obtain ⟨o, h1, h2⟩ := p
  exact fn_attr h1 h2 k)
end
end OB
namespace OB
open PySem PySem.Spec PyProof.Rows L2
/-! ### any object of the laws -/
/-- an own class whose instances stand about: no kind of a number, of a text, of a row -/
structure OwnC (K : PySem.W.Frag) (C : Addr) : Prop where
  cl : Cls K C
  ha : PySem.W.findIn K (.ref C) "__class__" = some (some (.builtin "object.__class__"))
  hn : PySem.W.specialIn K (.builtin "object.__class__") "__get__" = some (some (.builtin "getset_descriptor.__get__"))
  htk : PySem.W.takesIn K (.builtin "object.__class__") = some true
  hm : PySem.W.mroIn K C (.type "object") = some true
  no : ∀ T ∈ ["int", "bool", "str", "list", "tuple", "dict"], PySem.W.kitOne K (.ref C) (.type T) = some false
inductive Kd where
  | non | bl | int | str | lst | tup | dct | fn | ins
  deriving DecidableEq
inductive Any (K : PySem.W.Frag) (H : Hp) : V → Kd → Prop where
  | non : Any K H .non .non
  | bl (b : Bool) : Any K H (.bl b) .bl
  | int (i : Int) : Any K H (.int i) .int
  | str {x : Str} (h : x.length ≤ 100) : Any K H (.str x) .str
  | lst {a : Addr} {xs : List V} : H a = some (.lst xs) → Any K H (.ref a) .lst
  | tup {a : Addr} {xs : List V} : H a = some (.tup xs) → Any K H (.ref a) .tup
  | dct {a : Addr} {kvs : List (Key × V)} : H a = some (.dK kvs) → Any K H (.ref a) .dct
  | fn {a : Addr} {o : Obj} : K.lookup a = some o → o.cls = .type "function" → Any K H (.ref a) .fn
  | ins {a C dx : Addr} {fs : List (Str × V)} : H a = some (.ins C dx fs) → OwnC K C → Any K H (.ref a) .ins
theorem Any.same {K : PySem.W.Frag} {H H' : Hp} {v : V} {k : Kd} (h : Any K H v k) (e : Same H H') : Any K H' v k := by
  cases h with
  | non => exact .non
  | bl b => exact .bl b
  | int i => exact .int i
  | str h => exact .str h
  | lst q => exact .lst (e _ _ q)
  | tup q => exact .tup (e _ _ q)
  | dct q => exact .dct (e _ _ q)
  | fn q c => exact .fn q c
  | ins q o => exact .ins (e _ _ q) o
def Kd.isInt (k : Kd) : Bool := match k with
  | .int => true
  | _ => false
def Kd.isBl (k : Kd) : Bool := match k with
  | .bl => true
  | _ => false
def Kd.isStr (k : Kd) : Bool := match k with
  | .str => true
  | _ => false
def Kd.isLst (k : Kd) : Bool := match k with
  | .lst => true
  | _ => false
def Kd.isTup (k : Kd) : Bool := match k with
  | .tup => true
  | _ => false
def Kd.isDct (k : Kd) : Bool := match k with
  | .dct => true
  | _ => false
/-- a value's kind -/
inductive TyA (K : PySem.W.Frag) (H : Hp) : V → Value → Prop where
  | x {v : V} {t : Value} (h : TyX K H v t) : TyA K H v t
  | fn {a : Addr} {o : Obj} (e : K.lookup a = some o) (c : o.cls = .type "function") : TyA K H (.ref a) (.type "function")
def rIsA (K : PySem.W.Frag) : List V → Hp → VK → Prop := fun xs H Q => ∃ (x c : V) (t u : Value) (b : Bool), xs = [x, c] ∧ ClsV c u ∧ TyA K H x t ∧ PySem.W.kitOne K t u = some b ∧ Q (.bl b) H
def rIsAT (K : PySem.W.Frag) : List V → Hp → VK → Prop := fun xs H Q => ∃ (x : V) (tp : Addr) (cs : List V) (t : Value) (us : List Value) (b : Bool), xs = [x, .ref tp] ∧ H tp = some (.tup cs) ∧ Paired ClsV cs us ∧ TyA K H x t ∧ PySem.W.kitAny K t us = some b ∧ Q (.bl b) H
section
variable {X : Cx} {pins : List (Addr × Obj)} {σ : L2.St} {H : Hp} {s : Shared}
theorem kitA_of {x : V} {u t : Value} (I : Inv X pins σ H s) (rx : RelV x u) (ty : TyA X.K H x t) : ∃ P : Heap → Prop, PySem.W.KitX X.K u t P ∧ P s.heap ∧ u ≠ .builtin "__main__.__loader__#opaque" := by
  cases ty with
  | x h => exact kit_of I rx h
  | @fn a o e c =>
    cases (show u = Value.ref a from rx)
    exact ⟨_, kit_fn, ⟨o, I.kIn a o e, c⟩, fun z => nomatch z⟩
theorem call_isA : CallR X (.builtin "isinstance") (rIsA X.K) := by
  intro pins s σ H xs us Q I r h
  obtain ⟨x, c, t, u, b, rfl, k, ty, e, q⟩ := h
  obtain ⟨u1, u2, rfl, r1, r2⟩ := vals2 r
  obtain rfl := k.eq r2
  obtain ⟨P, Z, p, hx⟩ := kitA_of I r1 ty
  exact PySem.W.kia_one Z I.kIn p e hx fun tk => ⟨.bl b, H, I.tok tk, rfl, q⟩
theorem call_isAT : CallR X (.builtin "isinstance") (rIsAT X.K) := by
  intro pins s σ H xs us Q I r h
  obtain ⟨x, tp, cs, t, ws, b, rfl, hT, k, ty, e, q⟩ := h
  obtain ⟨u1, u2, rfl, r1, r2⟩ := vals2 r
  cases (show u2 = Value.ref tp from r2)
  obtain ⟨P, Z, p, hx⟩ := kitA_of I r1 ty
  obtain ⟨_, its, rv, o, h1, h2, n, h3⟩ := (show ObjOk X.prog X.w H s.heap tp (.tup cs) from I.hok tp _ hT)
  obtain rfl := ClsV.all k rv
  obtain ⟨oc, od, dt, sl⟩ := o
  simp only at h2 h3
  subst h2 h3
  exact PySem.W.kia_tup Z I.kIn p h1 e hx fun tk => ⟨.bl b, H, I.tok tk, rfl, q⟩
end
/-- what isinstance answers of such an object -/
structure Says6 (K : PySem.W.Frag) (H : Hp) (v : V) (k : Kd) (t : Value) : Prop where
  ty : TyA K H v t
  int : PySem.W.kitOne K t (.type "int") = some (k.isInt || k.isBl)
  bool : PySem.W.kitOne K t (.type "bool") = some k.isBl
  str : PySem.W.kitOne K t (.type "str") = some k.isStr
  list : PySem.W.kitOne K t (.type "list") = some k.isLst
  tuple : PySem.W.kitOne K t (.type "tuple") = some k.isTup
  dict : PySem.W.kitOne K t (.type "dict") = some k.isDct
theorem tyA6 {K : PySem.W.Frag} {H : Hp} {v : V} {k : Kd} {T : String} (h : TyA K H v (.type T)) (a : kitB T "int" = some (k.isInt || k.isBl) ∧ kitB T "bool" = some k.isBl ∧ kitB T "str" = some k.isStr ∧ kitB T "list" = some k.isLst ∧ kitB T "tuple" = some k.isTup ∧ kitB T "dict" = some k.isDct) : Says6 K H v k (.type T) :=
  ⟨h, kit_ty a.1, kit_ty a.2.1, kit_ty a.2.2.1, kit_ty a.2.2.2.1, kit_ty a.2.2.2.2.1, kit_ty a.2.2.2.2.2⟩
theorem Any.says {K : PySem.W.Frag} {H : Hp} {v : V} {k : Kd} (h : Any K H v k) : ∃ t, Says6 K H v k t := by
  cases h with
  | non => exact ⟨_, tyA6 (.x (.base .non)) (by decide +kernel)⟩
  | bl b => exact ⟨_, tyA6 (.x (.base (.bl b))) (by decide +kernel)⟩
  | int i => exact ⟨_, tyA6 (.x (.base (.int i))) (by decide +kernel)⟩
  | @str x h => exact ⟨_, tyA6 (.x (.base (.str x))) (by decide +kernel)⟩
  | lst e => exact ⟨_, tyA6 (.x (.base (.lst e))) (by decide +kernel)⟩
  | tup e => exact ⟨_, tyA6 (.x (.base (.tup e))) (by decide +kernel)⟩
  | dct e => exact ⟨_, tyA6 (.x (.base (.dK e))) (by decide +kernel)⟩
  | fn e c => exact ⟨_, tyA6 (.fn e c) (by decide +kernel)⟩
  | @ins a C dx fs e o => exact ⟨.ref C, .x (.base (.ins e o.cl o.ha o.hn o.htk o.hm)), o.no _ (by simp), o.no _ (by simp), o.no _ (by simp), o.no _ (by simp), o.no _ (by simp), o.no _ (by simp)⟩
theorem Says6.seq {K : PySem.W.Frag} {H : Hp} {v : V} {k : Kd} {t : Value} (h : Says6 K H v k t) : PySem.W.kitAny K t [.type "list", .type "tuple"] = some (k.isLst || k.isTup) :=
  kitAny_cons h.list (fun e => by rw [e]; exact kitAny_cons h.tuple (fun e2 => by rw [e2]; rfl) fun e2 => by rw [e2]; rfl) fun e => by rw [e]; rfl
end OB
namespace OB
open PySem PySem.Spec PyProof.Rows L2
/-! ### the program's small questions -/
abbrev sIsInt : Stmt := top 1
abbrev sIsNum : Stmt := top 2
abbrev sIsList : Stmt := top 4
theorem bootIsi : bootBuiltins "isinstance" = some (.builtin "isinstance") := by decide +kernel
theorem bInt : bootBuiltins "int" = some (.type "int") := by decide +kernel
theorem bBool : bootBuiltins "bool" = some (.type "bool") := by decide +kernel
theorem bStr : bootBuiltins "str" = some (.type "str") := by decide +kernel
theorem bList : bootBuiltins "list" = some (.type "list") := by decide +kernel
theorem bTuple : bootBuiltins "tuple" = some (.type "tuple") := by decide +kernel
theorem bDict : bootBuiltins "dict" = some (.type "dict") := by decide +kernel
structure TxtC (mg : Str → Option Value) : Prop where
  isi : mg "isinstance" = none
  int : mg "int" = none
  bool : mg "bool" = none
  str : mg "str" = none
  list : mg "list" = none
  tuple : mg "tuple" = none
  len : mg "len" = none
  all : mg "all" = none
/-- what is asked of any object and answered by True or False -/
def spAsk (K : PySem.W.Frag) (f : V → Kd → Bool) : Sp := fun vs H Q _ => ∃ (v : V) (k : Kd), vs = [v] ∧ Any K H v k ∧ ∀ H', Same H H' → Q (.bl (f v k)) H'
def numFrom (n : Int) (v : V) (_ : Kd) : Bool := match v with
  | .int i => decide (n ≤ i)
  | _ => false
def fInt (_ : V) (k : Kd) : Bool := k.isInt
def fSeq (_ : V) (k : Kd) : Bool := k.isLst || k.isTup
section
variable {P : Program} {w : World} {K : PySem.W.Frag} {mg : Str → Option Value} {base : Heap}
theorem scIsInt : FnScope ["thing"] ["thing"] (defScope sIsInt) := ⟨rfl, rfl, rfl, by decide +kernel, rfl, by decide +kernel, by decide +kernel⟩
theorem ok_isInt {f : Addr} {fd : FuncData} (F : Fun K "is_integer" "is_integer" sIsInt f fd) (T : TxtC mg) : FnOk P w K mg base CX0 1 f fd ["thing"] (spAsk K fInt) := by
  refine F.ok scIsInt (fun vs H Q E h => ?_) (fun cdv A outer s H vs Q E hr h => ?_)
  · obtain ⟨v, k, rfl, _⟩ := h
    rfl
  · obtain ⟨v, k, rfl, a, q⟩ := h
    obtain ⟨t, S⟩ := a.says
    refine ⟨_, pss_one (ps_ret (pe_and (pe_callB call_isA (by rfl) T.isi bootIsi (pa_cons (pv 0) (pa_cons (pe_bltn (v := .ty "int") (u := .type "int") (by rfl) T.int bInt rfl) pa_nil)))
      (pe_one (pe_not (pe_callB call_isA (by rfl) T.isi bootIsi (pa_cons (pv 0) (pa_cons (pe_bltn (v := .ty "bool") (u := .type "bool") (by rfl) T.bool bBool rfl) pa_nil))))))), ?_⟩
    refine ⟨_, rfl, v, .ty "int", t, .type "int", _, rfl, .ty _, S.ty, S.int, _, rfl, ?_⟩
    have q' := q H (Same.refl H)
    cases k with
    | int => exact iteT ⟨_, rfl, v, .ty "bool", t, .type "bool", _, rfl, .ty _, S.ty, S.bool, _, rfl, q'⟩
    | bl => exact iteT ⟨_, rfl, v, .ty "bool", t, .type "bool", _, rfl, .ty _, S.ty, S.bool, _, rfl, q'⟩
    | _ => exact iteF q'
theorem scIsNum : FnScope ["thing"] ["thing"] (defScope sIsNum) := ⟨rfl, rfl, rfl, by decide +kernel, rfl, by decide +kernel, by decide +kernel⟩
theorem ok_isNum {f fI : Addr} {fd fdI : FuncData} (F : Fun K "is_number" "is_number" sIsNum f fd) (FI : Fun K "is_integer" "is_integer" sIsInt fI fdI) (gI : mg "is_integer" = some (.ref fI)) (T : TxtC mg) : FnOk P w K mg base CX0 2 f fd ["thing"] (spAsk K (numFrom 0)) := by
  have GI : FnOk P w K mg base CX0 1 fI fdI ["thing"] (spAsk K fInt) := ok_isInt FI T
  have bI : Binds K fdI ["thing"] [] := FI.binds fun _ _ _ _ _ _ us hl => match us, hl with | [_], _ => rfl
  refine F.ok scIsNum (fun vs H Q E h => ?_) (fun cdv A outer s H vs Q E hr h => ?_)
  · obtain ⟨v, k, rfl, _⟩ := h
    rfl
  · obtain ⟨v, k, rfl, a, q⟩ := h
    refine ⟨_, pss_one (ps_ret (pe_and (pe_call GI hr (by rfl) gI FI.kp bI .nil pass0 (pa_cons (pv 0) pa_nil)) (pe_one (pe_cmpR op_ge (pv 0) pe_int (nomark _))))), ?_⟩
    refine ⟨_, rfl, v, k, rfl, a, fun H' e => ⟨_, rfl, ?_⟩⟩
    have q' := q H' e
    cases a with
    | int i => exact iteT ⟨_, rfl, i, 0, rfl, rfl, q'⟩
    | _ => exact iteF q'
theorem scIsList : FnScope ["thing"] ["thing"] (defScope sIsList) := ⟨rfl, rfl, rfl, by decide +kernel, rfl, by decide +kernel, by decide +kernel⟩
theorem ok_isList {f : Addr} {fd : FuncData} (F : Fun K "is_list" "is_list" sIsList f fd) (T : TxtC mg) : FnOk P w K mg base CX0 1 f fd ["thing"] (spAsk K fSeq) := by
  refine F.ok scIsList (fun vs H Q E h => ?_) (fun cdv A outer s H vs Q E hr h => ?_)
  · obtain ⟨v, k, rfl, _⟩ := h
    rfl
  · obtain ⟨v, k, rfl, a, q⟩ := h
    refine ⟨_, pss_one (ps_ret (pe_callB call_isAT (by rfl) T.isi bootIsi (pa_cons (pv 0) (pa_cons (pe_tup (pa_cons (pe_bltn (v := .ty "list") (u := .type "list") (by rfl) T.list bList rfl) (pa_cons (pe_bltn (v := .ty "tuple") (u := .type "tuple") (by rfl) T.tuple bTuple rfl) pa_nil))) pa_nil)))), ?_⟩
    refine ⟨_, rfl, by show 2 ≤ sizeLine; decide, fun tp htp => ?_⟩
    obtain ⟨t, S⟩ := (a.same (Same.new (u := .tup [.ty "list", .ty "tuple"]) htp)).says
    exact ⟨v, tp, _, t, _, _, rfl, upd_same, .cons (.ty _) (.cons (.ty _) .nil), S.ty, S.seq, q _ (Same.new htp)⟩
end
end OB
namespace OB
open PySem PySem.Spec PyProof.Rows L2
/-! ### an own error with a field, raised -/
theorem relO_one {v : V} {u : Value} (r : RelV v u) (f g : Str) : RelO (List.lookup g [(f, v)]) (if g = f then some u else none) := by
  by_cases e : g = f
  · subst e
    rw [if_pos rfl]
    have z : List.lookup g [(g, v)] = some v := by simp [List.lookup]
    rw [z]
    exact r
  · rw [if_neg e]
    have z1 : (g == f) = false := by simpa using e
    have z : List.lookup g [(f, v)] = none := by simp [List.lookup, z1]
    rw [z]
    trivial
def tMkE (C : Addr) (f : Str) (ta : TA) : L2.St → Hp → XK → Prop := fun σ H Q => ta σ H fun vs H1 => ∃ v, vs = [v] ∧ ∀ d, H1 d = none → Q (.ref C) (some d) (upd H1 d (.xd [(f, v)]))
section
variable {X : Cx} {C fI : Addr} {f x : Str} {k : Nat} {a : Expr} {ta : TA} {p pos : Pos}
theorem pmk_err (T : OE.Cl1 X.prog X.K C fI f) (B : OE.Bds f) (hr : Room (k + 1) X.A) (htop : (X.prog.main.scope.names.lookup ("super" : Str)).isSome = false) (hg : Gl X x) (hm : X.mg x = some (.ref C)) (hk : PySem.W.keepIn X.K (.ref C) = true)
    (ex : PySem.W.subIn X.K (.ref C) (.type "BaseException") = some true) (ty : PySem.W.typeIn X.K (.ref C) = some (.type "type")) (ha : PA X [a] ta) (hdb : (x == ("__debug__" : Str)) = false)
    (he : starEach [a] X.env = (false, eval a X.env) :: starEach [] X.env := by rfl) (hpl : (backTo pos (starEach [] X.env)).any (·.1) = false := by rfl) :
    PMk X (.Call (.Name x p) [a] [] pos) (tMkE C f ta) := by
  intro pins s σ H Q I h
  refine wpAny_Call_Name_kw (ld_glob I hg hm ?_ hdb)
  refine PySem.W.callWith_K (h₀ := X.base) I.ok.mod.kin hk (thn (ha.run pos pins s σ H _ I h) fun us s1 hh => ?_) he hpl
  obtain ⟨vs, H1, I1, r1, v, rfl, q1⟩ := hh
  refine ⟨I1.kIn, ?_⟩
  cases r1 with
  | @cons _ u _ _ rv rn =>
    cases rn
    show wpAny _ _ (call (.ref C) [u]) _ _ _
    obtain ⟨nm, qn, N, bs, bm, sn, sub, ab, col, dd, k0, k1, k2, k3, k5, hC, hbm⟩ := T.cls
    obtain ⟨mb, nb, hbi⟩ := I1.mod.blt
    have hlim := I1.mod.nolimit
    have bk0 := I1.bk
    obtain ⟨hp, g, dr, tk, os⟩ := s1
    have kp : ∀ b o, hp.get? b = some o → (OE.newHp hp C [u]).get? b = some o := fun b o e => Heap.get?_push_of_some _ (Heap.get?_push_of_some _ e)
    have bk : ∀ b o, X.base.get? b = some o → (OE.newHp hp C [u]).get? b = some o := fun b o e => kp b o (bk0 b o e)
    have ox : (OE.newHp hp C [u]).get? (hp.objs.size + 1) = some (PySem.HandSPX.excO C hp.objs.size) := by heap_get
    have nx : hp.get? (hp.objs.size + 1) = none := Heap.get?_none_of_le (Nat.le_succ _)
    have nK : X.K.lookup (hp.objs.size + 1) = none := by
      cases z : X.K.lookup (hp.objs.size + 1) with
      | none => rfl
      | some o =>
        have y : hp.get? _ = some o := I1.kIn _ _ z
        rw [nx] at y
        cases y
    refine wpAny_call (OE.call_any F.excBase_ValueError (fun Y => PySem.HandSPX.refsVE_contains Y bm hbm) (I1.kIn _ _ hC) (by show 1 ≤ sizeLine; rw [sizeLine_eq]; omega) (PySem.W.looks_findIn I1.kIn T.iC) (fun self => PySem.W.bind_fn I1.kIn self T.tC) ?_)
    refine OE.init1 T (x := hp.objs.size + 1) (t0 := hp.objs.size) (v := u) (I1.mod.kin.keeps bk) (I1.mod.glob.keeps bk) (nb.keeps bk) hbi htop (hlim.keeps bk) ox nK ?_ (fun fd h1 h2 h3 => BindsTo.of_eq (B fd h1 h2 h3 _ u).1) ?_
    · rw [make_depth]
      have := hr.dp
      omega
    · intro h' tk' d t1 M
      have k' : ∀ b o, hp.get? b = some o → h'.get? b = some o := fun b o e => M.keep b o (Nat.ne_of_lt (Nat.lt_succ_of_lt (Heap.lt_size e))) (kp b o e)
      have hsz : (OE.newHp hp C [u]).objs.size = hp.objs.size + 2 := by rw [OE.newHp, Heap.size_push, Heap.size_push]
      have db : (OE.newHp hp C [u]).objs.size ≤ d := M.dbig
      have db2 : hp.objs.size ≤ d := by omega
      have hns := M.ns
      refine ⟨rfl, ?_⟩
      show MkP X pins σ Q (.ref (hp.objs.size + 1)) ⟨h', g, dr, tk', os⟩
      obtain ⟨G', g1, g2⟩ := restrict h' fun b => decide (b ≠ hp.objs.size + 1)
      have gk : ∀ b, b ≠ hp.objs.size + 1 → G'.get? b = h'.get? b := fun b hb => g1 b (decide_eq_true hb)
      have ge : G'.get? (hp.objs.size + 1) = none := g2 _ (by simp)
      have old : ∀ b o, hp.get? b = some o → G'.get? b = some o := fun b o q => (gk b (Nat.ne_of_lt (Nat.lt_succ_of_lt (Heap.lt_size q)))).trans (k' b o q)
      have made : ObjOk X.prog X.w (upd H1 d (.xd [(f, v)])) G' d (.xd [(f, v)]) := ⟨_, hns.at (fun o q => (gk d M.dne).trans q), fun y => relO_one rv f y⟩
      have J : Inv X pins σ (upd H1 d (.xd [(f, v)])) ⟨G', g, dr, tk', os⟩ := I1.laid (t' := tk') old db2 made
      refine ⟨hp.objs.size + 1, _, _, ⟨G', g, dr, tk', os⟩, _, .ref C, some d, rfl, J, fun b o q => ?_, ge, M.obj, ⟨rfl, rfl⟩, rfl, rfl, ?_, rfl, I1.bare, raises_own ex ty, q1 d (I1.hok.fresh db2)⟩
      · by_cases hb : b = hp.objs.size + 1
        · have q' : G'.get? b = some o := q
          rw [hb, ge] at q'
          cases q'
        · exact (gk b hb).symm.trans q
      · rw [upd_ne (Ne.symm M.dne)]
        exact I1.hok.fresh (Nat.le_succ _)
end
end OB
namespace OB
open PySem PySem.Spec PyProof.Rows L2
open Sem (wp)
/-! ### enumerate over a tuple -/
theorem meets_en1 {v : Value} {o : Obj} {H : Heap → Prop} (B : Begins v o H) :
    Meets (Builtin.«enumerate.__new__» ⟨[.type "enumerate", v], []⟩) (fun _ R s => H s.heap ∧
      R (.ok (.ret (.ref (s.heap.push o).objs.size))) { s with heap := (s.heap.push o).push { cls := .type "enumerate", data := .fields #[.none, .bool false, .ref s.heap.objs.size, rawInt 0, .none, .none] } }) :=
  .of_wp fun prog w A R s hh => by
    obtain ⟨hp, gs, dr, tk, os⟩ := s
    obtain ⟨stands, fin⟩ := hh
    have isE := sub_enumerate
    have begin' : ∀ {A' : Around} {E : Value → Shared → Prop} {Q : Value → Shared → Prop}, Q (.ref hp.objs.size) ⟨hp.push o, gs, dr, tk, os⟩ → wpAny (model prog w) A' (pyIter v) Q E ⟨hp, gs, dr, tk, os⟩ := fun q => B.iter prog w _ _ ⟨hp, gs, dr, tk, os⟩ _ stands q
    wp_walk using begin'
    refine wpAny_stack_any fun st => wpAny_pure ?_
    split
    · rename_i c _ _ _ _ _
      cases (c == Value.type "enumerate") <;> (wp_walk using begin'; exact ⟨_, rfl, fin⟩)
    · wp_walk using begin'
      exact ⟨_, rfl, fin⟩
section
variable {prog : Program} {w : World} {A : Around} {E : Value → Shared → Prop} {s : Shared}
theorem call_en1 {v : Value} {o : Obj} {H : Heap → Prop} {Q : Value → Shared → Prop} (B : Begins v o H) (h1 : H s.heap)
    (fin : ∀ h', IsEnum h' (s.heap.objs.size + 1) s.heap.objs.size 0 .none → h'.get? s.heap.objs.size = some o → h'.objs.size = s.heap.objs.size + 2 → (∀ b o, s.heap.get? b = some o → h'.get? b = some o) → Q (.ref (s.heap.objs.size + 1)) { s with heap := h' }) :
    wpAny (model prog w) A (call (.type "enumerate") [v]) Q E s := by
  refine callType_new F.called_enumerate (by decide) (F.typeCall_enumerate_1 _) (F.newCall_enumerate_1 _) (fun obj => F.args_object_init_2 obj _) F.entry_enumerate_new (meets_en1 B) ⟨h1, ?_⟩
  have sz : (s.heap.push o).objs.size = s.heap.objs.size + 1 := Heap.size_push ..
  show _ ∧ _
  rw [sz]
  have isE : IsEnum ((s.heap.push o).push { cls := .type "enumerate", data := .fields #[.none, .bool false, .ref s.heap.objs.size, rawInt 0, .none, .none] }) (s.heap.objs.size + 1) s.heap.objs.size 0 .none := by
    have z := Heap.get?_push_size (s.heap.push o) (o := { cls := .type "enumerate", data := .fields #[.none, .bool false, .ref s.heap.objs.size, rawInt 0, .none, .none] }) rfl
    rw [sz] at z
    exact z
  exact ⟨⟨_, isE, rfl⟩, fin _ isE (Heap.get?_push_of_some _ (Heap.get?_push_size _ B.free)) (by rw [Heap.size_push, sz]) fun b o x => Heap.get?_push_of_some _ (Heap.get?_push_of_some _ x)⟩
end
/-- the tuple at a, each item in a new pair with its place -/
def IteT (K : PySem.W.Frag) (a : Addr) : It :=
  ⟨fun i H => ∃ (xs : List V) (x : V), SqT K H a xs ∧ xs[i]? = some x, fun i H v H' => ∃ T x, v = .ref T ∧ H T = none ∧ H' = upd H T (.tup [.int (i : Nat), x]) ∧ ∀ xs, SqT K H a xs → xs[i]? = some x, fun i H => ∃ xs : List V, SqT K H a xs ∧ xs.length = i⟩
theorem tup_ne {h : Heap} {a it : Addr} {items : Array Value} {i : Nat} (p : h.IsTuple a items) (q : h.IsTupleIter it a i) : a ≠ it := fun z => by
  obtain ⟨o, e, c, _⟩ := p
  obtain ⟨o2, e2, c2, _⟩ := q
  rw [z, e2] at e
  cases e
  rw [c2] at c
  exact absurd c (by decide)
theorem turn_enT {P : Program} {w : World} {K : PySem.W.Frag} {elts : List Expr} {kk : Nat} {tpos : Pos} (a e it : Addr) :
    Turn P w K (.Tuple elts kk tpos) (IteT K a) [e, it] e (fun i h => (∃ old, IsEnum h e it (0 + (i : Int)) old) ∧ h.IsTupleIter it a i ∧ e ≠ it) where
  mem := by simp
  obj := fun i h st b hb => by
    obtain ⟨⟨old, he⟩, ⟨o, ho, hc, hd⟩, _⟩ := st
    rcases (show b = e ∨ b = it by simpa using hb) with z | z
    · rw [z]
      exact ⟨_, he, fun v q => nomatch q⟩
    · rw [z]
      exact ⟨o, ho, fun v q => by rw [hd] at q; cases q⟩
  keep := fun i h h' st k => by
    obtain ⟨⟨old, he⟩, hi, hne⟩ := st
    exact ⟨⟨old, k e (by simp) _ he⟩, hi.at fun o q => k it (by simp) o q, hne⟩
  item := by
    intro X hP hw hK hc i pins s σ H E I hf st hg
    subst hP hw hK
    obtain ⟨⟨old, he⟩, hit, hne⟩ := st
    obtain ⟨xs, x, hq, hx⟩ := hg
    obtain ⟨its, rv, p, hz⟩ := I.tuple hq
    have p' : s.heap.IsTuple a its.toArray := p
    have ea : e ≠ a := fun z => by
      obtain ⟨o, eo, c, _⟩ := p'
      rw [← z, he] at eo
      cases eo
      exact absurd (show Value.type "enumerate" = Value.type "tuple" from c) (by decide)
    have D := Draws.tuple (prog := X.prog) (w := X.w) (A := X.A.in1) (I.ok.hd hc) it a (tup_ne p' hit) its.toArray
    have G := GoesN.enumFrom (elts := elts) (x1 := kk) (pos := tpos) 0 D e hne (by simp [hne, ea]) (by simp)
    have hi : i < its.toArray.size := by
      have l := rv.length
      have l2 : i < xs.length := (List.getElem?_eq_some_iff.mp hx).1
      simp
      omega
    have hlt : ∀ b ∈ [e, it], b < s.heap.objs.size := fun b hb => by
      rcases (show b = e ∨ b = it by simpa using hb) with z | z
      · rw [z]
        exact Heap.lt_size he
      · rw [z]
        obtain ⟨_, q, _⟩ := hit
        exact Heap.lt_size q
    refine G.goes i s _ _ hi ⟨⟨old, he⟩, hit, p'⟩ fun v h' tk hY st' hk htk => ?_
    obtain ⟨T, t, u, rfl, hT, hu, hTup⟩ := hY
    obtain ⟨⟨old', he'⟩, hit', _⟩ := st'
    have hu' : its[i]? = some u := by simpa using hu
    obtain ⟨u2, hu2, ru⟩ := rv.get hx
    rw [hu'] at hu2
    cases hu2
    obtain ⟨oT, eT, cT, nT, dT⟩ := hTup
    have new : ObjOk X.prog X.w (upd H T (.tup [.int (i : Nat), x])) h' T (.tup [.int (i : Nat), x]) :=
      ⟨by show 2 ≤ sizeLine; decide, [.int (0 + (i : Int)) t, u], .cons ⟨t, by rw [Int.zero_add]⟩ (.cons ru .nil), ⟨oT, eT, cT, nT, dT⟩⟩
    have I1 : Inv X pins σ (upd H T (.tup [.int (i : Nat), x])) { s with heap := h', toks := tk } := I.turnedNew (t' := tk) (ch := [e, it]) hk hf hT new
    exact ⟨.ref T, _, I1, rfl, ⟨T, x, rfl, I.hok.fresh hT, rfl, fun ys hy => by rw [I.tuple_inj hy hq]; exact hx⟩, ⟨⟨old', he'⟩, hit', hne⟩, fun b hb => by
      rw [upd_ne (Nat.ne_of_lt (Nat.lt_of_lt_of_le (hlt b hb) hT))]
      exact (hf b hb).1⟩
  done := by
    intro X hP hw hK hc i pins s σ H E I hf st hg
    subst hP hw hK
    obtain ⟨⟨old, he⟩, hit, hne⟩ := st
    obtain ⟨xs, hq, hx⟩ := hg
    obtain ⟨its, rv, p, hz⟩ := I.tuple hq
    have p' : s.heap.IsTuple a its.toArray := p
    have ea : e ≠ a := fun z => by
      obtain ⟨o, eo, c, _⟩ := p'
      rw [← z, he] at eo
      cases eo
      exact absurd (show Value.type "enumerate" = Value.type "tuple" from c) (by decide)
    have D := Draws.tuple (prog := X.prog) (w := X.w) (A := X.A.in1) (I.ok.hd hc) it a (tup_ne p' hit) its.toArray
    have G := GoesN.enumFrom (elts := elts) (x1 := kk) (pos := tpos) 0 D e hne (by simp [hne, ea]) (by simp)
    have hn : its.toArray.size = i := by
      have l := rv.length
      simp
      omega
    refine G.stops s _ _ (by rw [hn]; exact ⟨⟨old, he⟩, hit, p'⟩) fun h' tk hk htk => ?_
    exact I.turnedL (t' := tk) (ch := [e, it]) hk hf
  self := fun A i s Q E st h => by
    obtain ⟨⟨_, he⟩, _⟩ := st
    exact wpAny_pyIter_enum he h
def iEnT (K : PySem.W.Frag) (ta : TA) : TI := fun σ H R => ta σ H fun vs H1 => ∃ a xs, vs = [.ref a] ∧ ((SqL K H1 a xs ∧ R (Ite K a) H1) ∨ (SqT K H1 a xs ∧ R (IteT K a) H1))
theorem pi_enT {X : Cx} {e : Expr} {ta : TA} {p pos tpos : Pos} {elts : List Expr} {kk : Nat} (hg : Gl X "enumerate") (hm : X.mg "enumerate" = none) (ha : PA X [e] ta) (hs : starEach [e] X.env = [(false, eval e X.env)] := by rfl) :
    PI X (.Tuple elts kk tpos) (.Call (.Name "enumerate" p) [e] [] pos) (iEnT X.K ta) := by
  refine ⟨fun pins s σ H R I h => ?_⟩
  refine Call_ (ld_blt I hg hm boot_enumerate (PyProof.Rows.callWith_type1 (thn (ha.run pos pins s σ H _ I h) fun us s1 ⟨vs, H1, I1, r1, q1⟩ => ?_) hs rfl))
  obtain ⟨a, xs, rfl, q1⟩ := q1
  have fresh2 : ∀ b, b ∈ [s1.heap.objs.size + 1, s1.heap.objs.size] → FpOk X pins H1 b := fun b hb => by
    have le : s1.heap.objs.size ≤ b := by
      rcases (show b = s1.heap.objs.size + 1 ∨ b = s1.heap.objs.size by simpa using hb) with z | z <;> omega
    exact I1.fpOk le (I1.hok.fresh le)
  cases r1 with
  | cons r rr =>
    cases rr
    cases r
    rcases q1 with ⟨hq, q⟩ | ⟨hq, q⟩
    · obtain ⟨its, rv, p', hz⟩ := I1.list hq
      refine call_enumerate_list p'.isList fun h' he hit hsz hk => wpAny_pyIter_enum he ?_
      exact ⟨s1.heap.objs.size + 1, [s1.heap.objs.size + 1, s1.heap.objs.size], _, _, H1, rfl, I1.kept (t' := s1.toks) hk, turn_enum a (s1.heap.objs.size + 1) s1.heap.objs.size, ⟨⟨.none, he⟩, hit, Nat.succ_ne_self _⟩, fresh2, q⟩
    · obtain ⟨its, rv, p', hz⟩ := I1.tuple hq
      have pT : s1.heap.IsTuple a its.toArray := p'
      refine call_en1 (begins_tuple a its.toArray) pT fun h' he ho hsz hk => wpAny_pyIter_enum he ?_
      exact ⟨s1.heap.objs.size + 1, [s1.heap.objs.size + 1, s1.heap.objs.size], _, _, H1, rfl, I1.kept (t' := s1.toks) hk, turn_enT a (s1.heap.objs.size + 1) s1.heap.objs.size, ⟨⟨.none, he⟩, ⟨_, ho, rfl, rfl⟩, Nat.succ_ne_self _⟩, fresh2, q⟩
/-- a loop over enumerate of a tuple -/
theorem for_enT {K : PySem.W.Frag} {a : Addr} {xs : List V} {g : TG} {tb : TS} {D : Ends} {σ : L2.St} {H : Hp} (Pv : Nat → L2.St → Hp → Prop) (h0 : Pv 0 σ H) (hq : ∀ i σ H, Pv i σ H → SqT K H a xs)
    (hs : ∀ (i : Nat) (x : V) (T : Addr) (σ : L2.St) (H : Hp), xs[i]? = some x → Pv i σ H → H T = none → g (.ref T) σ (upd H T (.tup [.int (i : Nat), x])) fun σ2 H2 => tb { D with nx := Pv (i + 1), ct := Pv (i + 1), bk := D.nx } σ2 H2) (hd : ∀ σ H, Pv xs.length σ H → D.nx σ H) :
    ∃ W : Nat → Nat → L2.St → Hp → Prop, (∃ m, W 0 m σ H) ∧ ∀ i m σ H, W i m σ H →
      ((IteT K a).stop i H ∧ D.nx σ H) ∨ ((IteT K a).go i H ∧ ∃ N : L2.St → Hp → Prop, (∀ σ' H', N σ' H' → ∃ m', m' < m ∧ W (i + 1) m' σ' H') ∧ ∀ v H', (IteT K a).yld i H v H' → g v σ H' fun σ2 H2 => tb { D with nx := N, ct := N, bk := D.nx } σ2 H2) := by
  refine ⟨fun i m σ H => m = xs.length - i ∧ i ≤ xs.length ∧ Pv i σ H, ⟨xs.length, rfl, Nat.zero_le _, h0⟩, ?_⟩
  rintro i m σ H ⟨rfl, hi, p⟩
  have q := hq i σ H p
  by_cases hlt : i < xs.length
  · refine .inr ⟨⟨xs, xs[i], q, List.getElem?_eq_getElem hlt⟩, Pv (i + 1), fun σ' H' p' => ⟨xs.length - (i + 1), by omega, rfl, hlt, p'⟩, fun v H' y => ?_⟩
    obtain ⟨T, x, rfl, hT, rfl, hx⟩ := y
    exact hs i x T σ H (hx xs q) p hT
  · have e : i = xs.length := by omega
    subst e
    exact .inl ⟨⟨xs, q, rfl⟩, hd σ H p⟩
end OB
namespace OB
open PySem PySem.Spec PyProof.Rows L2
def SqX (tp : Bool) (K : PySem.W.Frag) (H : Hp) (b : Addr) (ys : List V) : Prop := match tp with
  | true => SqT K H b ys
  | false => SqL K H b ys
def AllAny (K : PySem.W.Frag) (H : Hp) (xs : List V) : Prop := ∀ x ∈ xs, ∃ k, Any K H x k
theorem AllAny.same {K : PySem.W.Frag} {H H' : Hp} {xs : List V} (h : AllAny K H xs) (e : Same H H') : AllAny K H' xs := fun x m => by
  obtain ⟨k, a⟩ := h x m
  exact ⟨k, a.same e⟩
theorem SqX.same {tp : Bool} {K : PySem.W.Frag} {H H' : Hp} {a : Addr} {xs : List V} (h : SqX tp K H a xs) (e : Same H H') : SqX tp K H' a xs := by
  cases tp with
  | true =>
    rcases h with (h | ⟨o, h⟩) | h
    · exact .inl (.inl (e _ _ h))
    · exact .inl (.inr ⟨o, e _ _ h⟩)
    · exact .inr h
  | false => exact e.seq h
/-- a loop over enumerate of a list that stays -/
theorem for_enL {K : PySem.W.Frag} {a : Addr} {xs : List V} {g : TG} {tb : TS} {D : Ends} {σ : L2.St} {H : Hp} (Pv : Nat → L2.St → Hp → Prop) (h0 : Pv 0 σ H) (hq : ∀ i σ H, Pv i σ H → SqL K H a xs)
    (hs : ∀ (i : Nat) (x : V) (T : Addr) (σ : L2.St) (H : Hp), xs[i]? = some x → Pv i σ H → H T = none → g (.ref T) σ (upd H T (.tup [.int (i : Nat), x])) fun σ2 H2 => tb { D with nx := Pv (i + 1), ct := Pv (i + 1), bk := D.nx } σ2 H2) (hd : ∀ σ H, Pv xs.length σ H → D.nx σ H) :
    ∃ W : Nat → Nat → L2.St → Hp → Prop, (∃ m, W 0 m σ H) ∧ ∀ i m σ H, W i m σ H →
      ((Ite K a).stop i H ∧ D.nx σ H) ∨ ((Ite K a).go i H ∧ ∃ N : L2.St → Hp → Prop, (∀ σ' H', N σ' H' → ∃ m', m' < m ∧ W (i + 1) m' σ' H') ∧ ∀ v H', (Ite K a).yld i H v H' → g v σ H' fun σ2 H2 => tb { D with nx := N, ct := N, bk := D.nx } σ2 H2) := by
  refine ⟨fun i m σ H => m = xs.length - i ∧ i ≤ xs.length ∧ Pv i σ H, ⟨xs.length, rfl, Nat.zero_le _, h0⟩, ?_⟩
  rintro i m σ H ⟨rfl, hi, p⟩
  have q := hq i σ H p
  by_cases hlt : i < xs.length
  · refine .inr ⟨⟨xs, xs[i], q, List.getElem?_eq_getElem hlt⟩, Pv (i + 1), fun σ' H' p' => ⟨xs.length - (i + 1), by omega, rfl, hlt, p'⟩, fun v H' y => ?_⟩
    obtain ⟨T, x, rfl, hT, rfl, hx⟩ := y
    exact hs i x T σ H (hx xs q) p hT
  · have e : i = xs.length := by omega
    subst e
    exact .inl ⟨⟨xs, q, Nat.le_refl _⟩, hd σ H p⟩
theorem SqX.or {tp : Bool} {K : PySem.W.Frag} {H : Hp} {p : Addr} {xs : List V} (h : SqX tp K H p xs) : SqL K H p xs ∨ SqT K H p xs := by
  cases tp with
  | true => exact .inr h
  | false => exact .inl h
def mkX (tp : Bool) (xs : List V) : HO := if tp = true then .tup xs else .lst xs
theorem SqX.new {tp : Bool} {K : PySem.W.Frag} {H : Hp} {p : Addr} {xs : List V} : SqX tp K (upd H p (mkX tp xs)) p xs := by
  cases tp with
  | true => exact SqT.of upd_same
  | false => exact SqL.of upd_same
def rIxX (K : PySem.W.Frag) : R2 := fun x y H Q => ∃ tp p xs i v, x = .ref p ∧ y = .int i ∧ SqX tp K H p xs ∧ atI xs i = some v ∧ Q v H
theorem ix_X {X : Cx} : IxR X (rIxX X.K) := by
  intro value slice pins s σ H x y v u Q I rx ry h hs
  obtain ⟨tp, p, xs, i, z, rfl, rfl, hq, he, q⟩ := h
  cases tp with
  | true => exact ix_tup value slice pins s σ H _ _ v u Q I rx ry ⟨p, xs, i, z, rfl, rfl, hq, he, q⟩ hs
  | false => exact ix_list value slice pins s σ H _ _ v u Q I rx ry ⟨p, xs, i, z, rfl, rfl, hq, he, q⟩ hs
def rSlQ (K : PySem.W.Frag) : V → Option Int → Option Int → Hp → VK → Prop := fun x lo hi H Q => ∃ tp a xs, x = .ref a ∧ SqX tp K H a xs ∧ ¬ (HT.sIx xs.length 0 lo = 0 ∧ HT.sIx xs.length xs.length hi = xs.length) ∧ ∀ p, H p = none → Q (.ref p) (upd H p (mkX tp (cutV xs lo hi)))
theorem sl_X {X : Cx} : SlR X (rSlQ X.K) := by
  intro pins s σ H x v vl vu lo hi sl Q I rx hs pl pu h
  obtain ⟨tp, a, xs, rfl, hx, nw, q⟩ := h
  cases tp with
  | true => exact sl_tup pins s σ H _ v vl vu lo hi sl Q I rx hs pl pu ⟨a, xs, rfl, hx, nw, q⟩
  | false => exact sl_list pins s σ H _ v vl vu lo hi sl Q I rx hs pl pu ⟨a, xs, rfl, hx, q⟩
theorem truX {tp : Bool} {K : PySem.W.Frag} {H : Hp} {p : Addr} {xs : List V} (h : SqX tp K H p xs) : TruV K (.ref p) H (!xs.isEmpty) := by
  cases tp with
  | true => exact .inr (.inl ⟨xs, h, rfl⟩)
  | false => exact .inl ⟨xs, h, rfl⟩
theorem any_sqx {K : PySem.W.Frag} {H : Hp} {v : V} {k : Kd} (h : Any K H v k) (e : fSeq v k = true) : ∃ tp p xs, v = .ref p ∧ H p = some (mkX tp xs) ∧ SqX tp K H p xs := by
  cases h with
  | lst q => exact ⟨false, _, _, rfl, q, SqL.of q⟩
  | tup q => exact ⟨true, _, _, rfl, q, SqT.of q⟩
  | _ => cases e
def ItX (tp : Bool) (K : PySem.W.Frag) (a : Addr) : It := match tp with
  | true => Itt K a
  | false => Itl K a
def iX (K : PySem.W.Frag) (tl : TE) : TI := fun σ H R => tl σ H fun x H1 => ∃ tp a xs, x = .ref a ∧ SqX tp K H1 a xs ∧ R (ItX tp K a) H1
section
variable {X : Cx}
theorem pi_X {tg l : Expr} {tl : TE} (hl : PE X l tl) : PI X tg l (iX X.K tl) := by
  refine ⟨fun pins s σ H R I h => thn (hl.run pins s σ H _ I h) fun v s1 ⟨x, H1, I1, r1, q1⟩ => ?_⟩
  obtain ⟨tp, a, xs, rfl, hq, q⟩ := q1
  cases r1
  cases tp with
  | true =>
    obtain ⟨its, rv, p, hz⟩ := I1.tuple hq
    exact wpAny_pyIter_tuple (show s1.heap.IsTuple a its.toArray from p) (pi_one (tk := s1.toks) I1 _ (turn_tuple a _) ⟨_, Heap.get?_push_size _ rfl, rfl, rfl⟩ q)
  | false =>
    obtain ⟨its, rv, p, hz⟩ := I1.list hq
    exact wpAny_pyIter_list p.isList (pi_one (tk := s1.toks) I1 _ (turn_list a _) ⟨_, Heap.get?_push_size _ rfl, rfl, rfl⟩ q)
theorem lc_X {tp : Bool} {K : PySem.W.Frag} {a : Addr} {xs : List V} {g : TG} {tt : TT} {te : TE} {vs : List Nat} {σ : L2.St} {H1 : Hp} {D : Addr} {Qd : Hp → Prop} (Pv : Nat → Hp → Prop) (h0 : Pv 0 (upd H1 D (.lst []))) (hl : ∀ i H, Pv i H → SqX tp K H a xs)
    (hs : ∀ i x H, xs[i]? = some x → Pv i H → g x (wipe σ vs) H fun σ2 H2 => wipe σ2 vs = wipe σ vs ∧ tt σ2 H2 fun b H3 => if b = true then te σ2 H3 fun y H4 => ∃ acc, H4 D = some (.lst acc) ∧ acc.length < sizeLine ∧ Pv (i + 1) (upd H4 D (.lst (acc ++ [y]))) else Pv (i + 1) H3)
    (hd : ∀ H, Pv xs.length H → Qd H) : ∃ W : Nat → Nat → Hp → Prop, (∃ m, W 0 m (upd H1 D (.lst []))) ∧ ∀ i m H, W i m H → ((ItX tp K a).stop i H ∧ Qd H) ∨ ((ItX tp K a).go i H ∧ ∃ Nx : Hp → Prop, (∀ H', Nx H' → ∃ m', m' < m ∧ W (i + 1) m' H') ∧ ∀ x H', (ItX tp K a).yld i H x H' →
      g x (wipe σ vs) H' fun σ2 H2 => wipe σ2 vs = wipe σ vs ∧ tt σ2 H2 fun b H3 => if b = true then te σ2 H3 fun y H4 => ∃ acc, H4 D = some (.lst acc) ∧ acc.length < sizeLine ∧ Nx (upd H4 D (.lst (acc ++ [y]))) else Nx H3) := by
  cases tp with
  | true => exact lc_tup Pv h0 (fun i H _ q => hl i H q) hs hd
  | false => exact lc_list Pv h0 (fun i H _ q => hl i H q) hs hd
end
theorem SqX.at {tp : Bool} {K : PySem.W.Frag} {H : Hp} {p : Addr} {xs : List V} (h : H p = some (mkX tp xs)) : SqX tp K H p xs := by
  cases tp with
  | true => exact SqT.of h
  | false => exact SqL.of h
structure TxtF (mg : Str → Option Value) : Prop where
  zip : mg "zip" = none
  set : mg "set" = none
  dict : mg "dict" = none
  any : mg "any" = none
end OB
namespace OB
open PySem PySem.Spec PyProof.Rows L2
/-! ### enumerate over a list or a tuple -/
def IteX (tp : Bool) (K : PySem.W.Frag) (a : Addr) : It := match tp with
  | true => IteT K a
  | false => Ite K a
def iEnX (K : PySem.W.Frag) (ta : TA) : TI := fun σ H R => ta σ H fun vs H1 => ∃ tp a xs, vs = [.ref a] ∧ SqX tp K H1 a xs ∧ R (IteX tp K a) H1
theorem pi_enX {X : Cx} {e : Expr} {ta : TA} {p pos tpos : Pos} {elts : List Expr} {kk : Nat} (hg : Gl X "enumerate") (hm : X.mg "enumerate" = none) (ha : PA X [e] ta) (hs : starEach [e] X.env = [(false, eval e X.env)] := by rfl) :
    PI X (.Tuple elts kk tpos) (.Call (.Name "enumerate" p) [e] [] pos) (iEnX X.K ta) := by
  refine ⟨fun pins s σ H R I h => ?_⟩
  refine Call_ (ld_blt I hg hm boot_enumerate (PyProof.Rows.callWith_type1 (thn (ha.run pos pins s σ H _ I h) fun us s1 ⟨vs, H1, I1, r1, q1⟩ => ?_) hs rfl))
  obtain ⟨tp, a, xs, rfl, hq, q⟩ := q1
  have fresh2 : ∀ b, b ∈ [s1.heap.objs.size + 1, s1.heap.objs.size] → FpOk X pins H1 b := fun b hb => by
    have le : s1.heap.objs.size ≤ b := by
      rcases (show b = s1.heap.objs.size + 1 ∨ b = s1.heap.objs.size by simpa using hb) with z | z <;> omega
    exact I1.fpOk le (I1.hok.fresh le)
  cases r1 with
  | cons r rr =>
    cases rr
    cases r
    cases tp with
    | false =>
      obtain ⟨its, rv, p', hz⟩ := I1.list hq
      refine call_enumerate_list p'.isList fun h' he hit hsz hk => wpAny_pyIter_enum he ?_
      exact ⟨s1.heap.objs.size + 1, [s1.heap.objs.size + 1, s1.heap.objs.size], _, _, H1, rfl, I1.kept (t' := s1.toks) hk, turn_enum a (s1.heap.objs.size + 1) s1.heap.objs.size, ⟨⟨.none, he⟩, hit, Nat.succ_ne_self _⟩, fresh2, q⟩
    | true =>
      obtain ⟨its, rv, p', hz⟩ := I1.tuple hq
      have pT : s1.heap.IsTuple a its.toArray := p'
      refine call_en1 (begins_tuple a its.toArray) pT fun h' he ho hsz hk => wpAny_pyIter_enum he ?_
      exact ⟨s1.heap.objs.size + 1, [s1.heap.objs.size + 1, s1.heap.objs.size], _, _, H1, rfl, I1.kept (t' := s1.toks) hk, turn_enT a (s1.heap.objs.size + 1) s1.heap.objs.size, ⟨⟨.none, he⟩, ⟨_, ho, rfl, rfl⟩, Nat.succ_ne_self _⟩, fresh2, q⟩
theorem walk_enX {tp : Bool} {K : PySem.W.Frag} {a : Addr} {xs : List V} : Walk (IteX tp K a) xs.length (fun H => SqX tp K H a xs) (YPair (fun i => some (.int (i : Nat))) (fun i => xs[i]?)) := by
  cases tp with
  | false => exact walk_enum
  | true =>
    refine ⟨fun i _ hi q => ⟨xs, xs[i], q, by simp [hi]⟩, fun _ q => ⟨xs, q, rfl⟩, fun i H v H' _ q y => ?_⟩
    obtain ⟨T, x, h1, h2, h3, h4⟩ := y
    exact ⟨T, .int (i : Nat), x, h1, h2, h3, rfl, h4 xs q⟩
theorem walk_X {tp : Bool} {K : PySem.W.Frag} {a : Addr} {xs : List V} : Walk (ItX tp K a) xs.length (fun H => SqX tp K H a xs) (YAt xs) := by
  cases tp with
  | false => exact walk_list
  | true => exact walk_tup
/-! ### stays -/
abbrev S3 : Type := Int × Int × Int
def stayOf (xs : List V) : Option S3 := match xs with
  | [.int b, .int e, .int l] => if 0 ≤ b ∧ 0 ≤ e ∧ 0 ≤ l ∧ b ≤ e then some (b, e, l) else none
  | _ => none
/-- any object, and the stay that it is -/
inductive Thing (K : PySem.W.Frag) (H : Hp) : V → Option S3 → Prop where
  | seq {tp : Bool} {a : Addr} {xs : List V} : H a = some (mkX tp xs) → AllAny K H xs → xs.length < 1000 → Thing K H (.ref a) (stayOf xs)
  | no {v : V} {k : Kd} : Any K H v k → fSeq v k = false → Thing K H v none
theorem Thing.same {K : PySem.W.Frag} {H H' : Hp} {v : V} {r : Option S3} (h : Thing K H v r) (e : Same H H') : Thing K H' v r := by
  cases h with
  | seq h a l => exact .seq (e _ _ h) (a.same e) l
  | no h f => exact .no (h.same e) f
theorem Thing.any {K : PySem.W.Frag} {H : Hp} {v : V} {r : Option S3} (h : Thing K H v r) : ∃ k, Any K H v k := by
  cases h with
  | @seq tp a xs h _ _ =>
    cases tp with
    | true => exact ⟨.tup, .tup h⟩
    | false => exact ⟨.lst, .lst h⟩
  | no h _ => exact ⟨_, h⟩
/-- a stay as a list or a tuple -/
def LSt (H : Hp) (v : V) (s : S3) : Prop := ∃ (tp : Bool) (t : Addr), v = .ref t ∧ H t = some (mkX tp [.int s.1, .int s.2.1, .int s.2.2])
def St (H : Hp) (v : V) (s : S3) : Prop := ∃ t : Addr, v = .ref t ∧ H t = some (.tup [.int s.1, .int s.2.1, .int s.2.2])
def GoodS (s : S3) : Prop := 0 ≤ s.1 ∧ s.1 ≤ s.2.1 ∧ 0 ≤ s.2.2
def Good (ss : List S3) : Prop := ∀ s ∈ ss, GoodS s
theorem St.l {H : Hp} {v : V} {s : S3} (h : St H v s) : LSt H v s := by
  obtain ⟨t, e, h⟩ := h
  exact ⟨true, t, e, h⟩
theorem St.same {H H' : Hp} {v : V} {s : S3} (h : St H v s) (e : Same H H') : St H' v s := by
  obtain ⟨t, z, h⟩ := h
  exact ⟨t, z, e _ _ h⟩
theorem LSt.same {H H' : Hp} {v : V} {s : S3} (h : LSt H v s) (e : Same H H') : LSt H' v s := by
  obtain ⟨tp, t, z, h⟩ := h
  exact ⟨tp, t, z, e _ _ h⟩
theorem LSt.thing {K : PySem.W.Frag} {H : Hp} {v : V} {s : S3} (h : LSt H v s) (g : GoodS s) : Thing K H v (some s) := by
  obtain ⟨tp, t, rfl, h⟩ := h
  obtain ⟨b, e, l⟩ := s
  obtain ⟨g1, g2, g3⟩ := g
  have z : stayOf [.int b, .int e, .int l] = some (b, e, l) := if_pos ⟨g1, by show 0 ≤ e; exact Int.le_trans g1 g2, g3, g2⟩
  rw [← z]
  refine .seq h (fun x m => ?_) (by show 3 < 1000; decide)
  rcases List.mem_cons.mp m with rfl | m
  · exact ⟨_, .int _⟩
  rcases List.mem_cons.mp m with rfl | m
  · exact ⟨_, .int _⟩
  rcases List.mem_cons.mp m with rfl | m
  · exact ⟨_, .int _⟩
  · cases m
theorem Paired.imp {α β : Type} {F G : α → β → Prop} (h : ∀ x y, F x y → G x y) : ∀ {xs : List α} {ys : List β}, Paired F xs ys → Paired G xs ys
  | _, _, .nil => .nil
  | _, _, .cons r t => .cons (h _ _ r) (Paired.imp h t)
theorem Paired.at {α β : Type} {F : α → β → Prop} : ∀ {xs : List α} {ys : List β} {i : Nat} {x : α}, Paired F xs ys → xs[i]? = some x → ∃ y, ys[i]? = some y ∧ F x y
  | _, _, 0, _, .cons r _, h => ⟨_, rfl, by cases h; exact r⟩
  | _, _, i + 1, x, .cons _ t, h => Paired.at (i := i) t h
theorem Paired.map {α β γ : Type} {F : α → γ → Prop} {f : β → γ} : ∀ {xs : List α} {ys : List β}, Paired (fun x y => F x (f y)) xs ys → Paired F xs (ys.map f)
  | _, _, .nil => .nil
  | _, _, .cons r t => .cons r (Paired.map t)
theorem Paired.unmap {α β γ : Type} {F : α → γ → Prop} {f : β → γ} : ∀ {xs : List α} {ys : List β}, Paired F xs (ys.map f) → Paired (fun x y => F x (f y)) xs ys
  | _, [], .nil => .nil
  | _, _ :: _, .cons r t => .cons r (Paired.unmap t)
theorem Paired.take {α β : Type} {F : α → β → Prop} : ∀ {xs : List α} {ys : List β} (n : Nat), Paired F xs ys → Paired F (xs.take n) (ys.take n)
  | _, _, 0, _ => by simpa using Paired.nil
  | _, _, _ + 1, .nil => .nil
  | _, _, n + 1, .cons r t => .cons r (Paired.take n t)
theorem Paired.drop {α β : Type} {F : α → β → Prop} : ∀ {xs : List α} {ys : List β} (n : Nat), Paired F xs ys → Paired F (xs.drop n) (ys.drop n)
  | _, _, 0, h => h
  | _, _, _ + 1, .nil => .nil
  | _, _, n + 1, .cons r t => Paired.drop n t
theorem Paired.app {α β : Type} {F : α → β → Prop} : ∀ {xs : List α} {ys : List β} {us : List α} {vs : List β}, Paired F xs ys → Paired F us vs → Paired F (xs ++ us) (ys ++ vs)
  | _, _, _, _, .nil, h => h
  | _, _, _, _, .cons r t, h => .cons r (Paired.app t h)
/-- at a a list of stays, tuples -/
def Row (H : Hp) (a : Addr) (ss : List S3) : Prop := ∃ vs, H a = some (.lst vs) ∧ Paired (St H) vs ss
/-- at a a list or a tuple of such -/
def LRow (H : Hp) (a : Addr) (ss : List S3) : Prop := ∃ tp vs, H a = some (mkX tp vs) ∧ Paired (LSt H) vs ss
theorem Row.same {H H' : Hp} {a : Addr} {ss : List S3} (h : Row H a ss) (e : Same H H') : Row H' a ss := by
  obtain ⟨vs, h1, h2⟩ := h
  exact ⟨vs, e _ _ h1, Paired.imp (fun _ _ z => St.same z e) h2⟩
theorem LRow.same {H H' : Hp} {a : Addr} {ss : List S3} (h : LRow H a ss) (e : Same H H') : LRow H' a ss := by
  obtain ⟨tp, vs, h1, h2⟩ := h
  exact ⟨tp, vs, e _ _ h1, Paired.imp (fun _ _ z => LSt.same z e) h2⟩
theorem Row.l {H : Hp} {a : Addr} {ss : List S3} (h : Row H a ss) : LRow H a ss := by
  obtain ⟨vs, h1, h2⟩ := h
  exact ⟨false, vs, h1, Paired.imp (fun _ _ z => St.l z) h2⟩
theorem LRow.things {K : PySem.W.Frag} {H : Hp} {a : Addr} {ss : List S3} (h : LRow H a ss) (g : Good ss) : ∃ tp vs, H a = some (mkX tp vs) ∧ Paired (Thing K H) vs (ss.map some) := by
  obtain ⟨tp, vs, h1, h2⟩ := h
  refine ⟨tp, vs, h1, Paired.map ?_⟩
  clear h1
  induction h2 with
  | nil => exact .nil
  | cons r t ih => exact .cons (LSt.thing r (g _ (List.mem_cons_self ..))) (ih fun s m => g s (List.mem_cons_of_mem _ m))
end OB
namespace OB
open PySem PySem.Spec PyProof.Rows L2
abbrev sFirst : Stmt := top 5
abbrev sIsStay : Stmt := top 14
def numV (x : V) : Bool := match x with
  | .int i => decide (0 ≤ i)
  | _ => false
theorem numV_eq (x : V) (k : Kd) : numFrom 0 x k = numV x := by cases x <;> rfl
theorem stayOf_len {xs : List V} (h : xs.length ≠ 3) : stayOf xs = none := by
  unfold stayOf
  split
  · exact absurd rfl h
  · rfl
theorem stayOf_num {xs : List V} (h : xs.all numV = false) : stayOf xs = none := by
  unfold stayOf
  split
  · rename_i b e l
    by_cases g : 0 ≤ b ∧ 0 ≤ e ∧ 0 ≤ l ∧ b ≤ e
    · have : ([.int b, .int e, .int l] : List V).all numV = true := by simp [numV, g.1, g.2.1, g.2.2.1]
      rw [this] at h
      cases h
    · exact if_neg g
  · rfl
def spIsStay (K : PySem.W.Frag) : Sp := fun vs H Q _ => ∃ (v : V) (r : Option S3), vs = [v] ∧ Thing K H v r ∧ ∀ H', Same H H' → Q (.bl r.isSome) H'
section
variable {P : Program} {w : World} {K : PySem.W.Frag} {mg : Str → Option Value} {base : Heap}
theorem scIsStay : FnScope ["thing", "part"] ["thing"] (defScope sIsStay) := ⟨rfl, rfl, rfl, by decide +kernel, rfl, by decide +kernel, by decide +kernel⟩
theorem ok_isStay {f fL fN : Addr} {fd fdL fdN : FuncData} (F : Fun K "is_stay" "is_stay" sIsStay f fd) (T : TxtC mg)
    (GL : FnOk P w K mg base CX0 1 fL fdL ["thing"] (spAsk K fSeq)) (gL : mg "is_list" = some (.ref fL)) (kL : PySem.W.keepIn K (.ref fL) = true) (bL : Binds K fdL ["thing"] [])
    (GN : FnOk P w K mg base CX0 2 fN fdN ["thing"] (spAsk K (numFrom 0))) (gN : mg "is_number" = some (.ref fN)) (kN : PySem.W.keepIn K (.ref fN) = true) (bN : Binds K fdN ["thing"] []) : FnOk P w K mg base CX0 3 f fd ["thing"] (spIsStay K) := by
  refine F.ok scIsStay (fun vs H Q E h => ?_) (fun cdv A outer s H vs Q E hr h => ?_)
  · obtain ⟨v, r, rfl, _⟩ := h
    rfl
  · obtain ⟨v, r, rfl, hv, q⟩ := h
    have nd := scIsStay.nd
    have hr1 := hr.mono (show 1 ≤ 2 by decide)
    refine ⟨_, pss_cons (ps_if (PW.pt (pw_or (pt_not (pt_val (pe_call GL hr1 (by rfl) gL kL bL .nil pass0 (pa_cons (pv 0) pa_nil)))) (pw_or (pt_cmpR op_ne (pe_callB call_len_seq (by rfl) T.len PySem.boot_len (pa_cons (pv 0) pa_nil)) pe_int (nomark _))
        (pw_or1 (pt_not (pt_val (pe_callB (cr_all rfl) (by rfl) T.all (by decide +kernel) (pa_cons (pe_lc (own := [("part", 1)]) (g := gName 1) (tt := tYes) rfl nd (pi_X (pv 0)) (blkOk_by (N := ["thing", "part"]) (sc := defScope sIsStay) (by decide +kernel))
          (fun _ _ _ _ _ => pg_name (i := 1) nd rfl (Or.inl rfl)) (fun _ _ _ _ _ => pts_nil) (fun _ _ _ _ _ => pe_call GN hr (by rfl) gN kN bN .nil pass0 (pa_cons (pv 1) pa_nil))) pa_nil))))))))
        (pss_one (ps_ret pe_bl)) pss_nil)
      (pss_one (ps_ret (pe_cmpR op_le (pe_ix ix_X (pv 0) pe_int (fun _ _ => rfl)) (pe_ix ix_X (pv 0) pe_int (fun _ _ => rfl)) (nomark _)))), ?_⟩
    cases hv with
    | @no v k h hf =>
      refine ⟨_, rfl, v, k, rfl, h, fun H1 e1 => ⟨_, rfl, ?_⟩⟩
      rw [hf]
      exact iteT (q _ e1)
    | @seq tp a xs h ax hl =>
      obtain ⟨k, av, hf⟩ : ∃ k, Any K H (.ref a) k ∧ fSeq (.ref a) k = true := by
        cases tp with
        | true => exact ⟨.tup, .tup h, rfl⟩
        | false => exact ⟨.lst, .lst h, rfl⟩
      refine ⟨_, rfl, _, k, rfl, av, fun H1 e1 => ⟨_, rfl, ?_⟩⟩
      rw [hf]
      have h1 := e1 _ _ h
      have sx : SqX tp K H1 a xs := SqX.at h1
      refine iteF ⟨_, rfl, a, xs, rfl, sx.or, rfl, _, rfl, ?_⟩
      refine ite2 (fun hn => ?_) (fun hn => ?_)
      · have h3 : xs.length ≠ 3 := fun z => by
          rw [z] at hn
          simp at hn
        rw [stayOf_len h3] at q
        exact q _ e1
      · have h3 : xs.length = 3 := by
          by_cases z : xs.length = 3
          · exact z
          · exfalso
            apply hn
            have ne : decide (V.int (xs.length : Nat) = V.int 3) = false := decide_eq_false fun y => z (by
              have := V.int.inj y
              omega)
            rw [ne] <;> rfl
        refine ⟨_, rfl, tp, a, xs, rfl, sx, fun D nD => ?_⟩
        have lm : ((xs.map numV).map V.bl).length = xs.length := by simp
        have nA : ∀ {i : Nat} {G : Hp}, AccP D H1 (mapTo ((xs.map numV).map V.bl)) i G → SqX tp K G a xs := fun z => SqX.same sx (acc_same z (Same.refl H1) nD)
        refine lc_it walk_X (AccP D H1 (mapTo ((xs.map numV).map V.bl))) (acc_start rfl) (fun i G _ z => nA z) (fun i x G G' hi z y => ?_) (fun G z => ?_)
        · obtain ⟨rfl, hx⟩ := y
          refine ⟨rfl, ?_⟩
          dsimp only [tYes]
          rw [if_pos rfl]
          obtain ⟨kx, bx⟩ := ax x (List.mem_of_getElem? hx)
          refine ⟨_, rfl, x, kx, rfl, (bx.same e1).same (acc_same z (Same.refl H1) nD), fun G2 e2 => ?_⟩
          rw [numV_eq]
          exact acc_in z e2 (mapTo_len (by rw [lm, sizeLine_eq]; omega)) (mapTo_succ (by rw [List.getElem?_map, List.getElem?_map, hx] <;> rfl))
        · rw [← lm] at z
          have gD : G D = some (.lst ((xs.map numV).map V.bl)) := by rw [z.2, mapTo_all]
          have e2 : Same H G := acc_same z e1 nD
          refine ⟨D, xs.map numV, rfl, SqL.of gD, _, rfl, ?_⟩
          have al : (xs.map numV).all id = xs.all numV := by rw [List.all_map] <;> rfl
          rw [al]
          cases hall : xs.all numV with
          | false =>
            rw [stayOf_num hall] at q
            exact q _ e2
          | true =>
            obtain ⟨x0, x1, x2, rfl⟩ : ∃ x0 x1 x2, xs = [x0, x1, x2] := by
              match xs, h3 with
              | [x0, x1, x2], _ => exact ⟨x0, x1, x2, rfl⟩
            simp only [List.all_cons, List.all_nil, Bool.and_true, Bool.and_eq_true] at hall
            obtain ⟨n0, n1, n2⟩ := hall
            have num : ∀ {x : V}, numV x = true → ∃ i : Int, x = .int i ∧ 0 ≤ i := fun {x} h => by
              cases x with
              | int i => exact ⟨i, rfl, of_decide_eq_true h⟩
              | _ => cases h
            obtain ⟨b, rfl, b0⟩ := num n0
            obtain ⟨e, rfl, e0⟩ := num n1
            obtain ⟨l, rfl, l0⟩ := num n2
            have sx2 : SqX tp K G a [.int b, .int e, .int l] := SqX.same sx (acc_same z (Same.refl H1) nD)
            have val : (stayOf [.int b, .int e, .int l]).isSome = decide (b ≤ e) := by
              show (if 0 ≤ b ∧ 0 ≤ e ∧ 0 ≤ l ∧ b ≤ e then some (b, e, l) else none).isSome = _
              by_cases g : b ≤ e
              · rw [if_pos ⟨b0, e0, l0, g⟩, decide_eq_true g] <;> rfl
              · rw [if_neg (fun z => g z.2.2.2), decide_eq_false g] <;> rfl
            rw [val] at q
            exact ⟨_, rfl, tp, a, _, ((0 : Nat) : Int), .int b, rfl, rfl, sx2, atI_nat rfl, _, rfl, tp, a, _, ((1 : Nat) : Int), .int e, rfl, rfl, sx2, atI_nat rfl, b, e, rfl, rfl, q _ e2⟩
/-! ### the first that is no stay -/
/-- the index told of the first none -/
def fstV (rs : List (Option S3)) : V := match rs.findIdx? (fun r => r.isNone) with
  | some i => .int (i : Nat)
  | none => .non
def spFirst (K : PySem.W.Frag) (g : Addr) : Sp := fun vs H Q _ => ∃ (v : V), vs = [v, .ref g] ∧ ((∃ k, Any K H v k ∧ fSeq v k = false ∧ ∀ H', Same H H' → Q (.int 0) H') ∨
  (∃ (a : Addr) (tp : Bool) (xs : List V) (rs : List (Option S3)), v = .ref a ∧ H a = some (mkX tp xs) ∧ Paired (Thing K H) xs rs ∧ xs.length < 1000 ∧ ∀ H', Same H H' → Q (fstV rs) H'))
theorem scFirst : FnScope ["things", "is_right", "index", "thing"] ["things", "is_right"] (defScope sFirst) := ⟨rfl, rfl, rfl, by decide +kernel, rfl, by decide +kernel, by decide +kernel⟩
theorem ok_first {f fL fS : Addr} {fd fdL fdS : FuncData} (F : Fun K "first_wrong" "first_wrong" sFirst f fd) (T : TxtC mg) (en : mg "enumerate" = none)
    (GL : FnOk P w K mg base CX0 1 fL fdL ["thing"] (spAsk K fSeq)) (gL : mg "is_list" = some (.ref fL)) (kL : PySem.W.keepIn K (.ref fL) = true) (bL : Binds K fdL ["thing"] [])
    (GS : FnOk P w K mg base CX0 3 fS fdS ["thing"] (spIsStay K)) (kS : PySem.W.keepIn K (.ref fS) = true) (bS : Binds K fdS ["thing"] []) : FnOk P w K mg base CX0 4 f fd ["things", "is_right"] (spFirst K fS) := by
  refine F.ok scFirst (fun vs H Q E h => ?_) (fun cdv A outer s H vs Q E hr h => ?_)
  · obtain ⟨v, rfl, _⟩ := h
    rfl
  · obtain ⟨v, rfl, h⟩ := h
    have nd := scFirst.nd
    have hr1 := hr.mono (show 1 ≤ 3 by decide)
    refine ⟨_, pss_cons (ps_if (pt_not (pt_val (pe_call GL hr1 (by rfl) gL kL bL .nil pass0 (pa_cons (pv 0) pa_nil)))) (pss_one (ps_ret pe_int)) pss_nil)
      (pss_cons (ps_for PassesOwn.never rfl (pi_enX (by rfl) en (pa_cons (pv 0) pa_nil)) (pg_tup rfl (pgs_cons (pg_name (i := 2) nd rfl (Or.inl rfl)) (pgs_cons (pg_name (i := 3) nd rfl (Or.inl rfl)) pgs_nil)))
        (pss_one (ps_if (pt_not (pt_val (pe_callL (i := 1) GS hr rfl (Or.inl rfl) kS bS .nil pass0 (pa_cons (pv 3) pa_nil)))) (pss_one (ps_ret (pv 2))) pss_nil)))
      (pss_one (ps_ret pe_non))), ?_⟩
    rcases h with ⟨k, h, hf, q⟩ | ⟨a, tp, xs, rs, rfl, h, hp, hl, q⟩
    · refine ⟨_, rfl, v, k, rfl, h, fun H1 e1 => ⟨_, rfl, ?_⟩⟩
      rw [hf]
      exact iteT (q _ e1)
    · obtain ⟨k, av, hf⟩ : ∃ k, Any K H (.ref a) k ∧ fSeq (.ref a) k = true := by
        cases tp with
        | true => exact ⟨.tup, .tup h, rfl⟩
        | false => exact ⟨.lst, .lst h, rfl⟩
      refine ⟨_, rfl, _, k, rfl, av, fun H1 e1 => ⟨_, rfl, ?_⟩⟩
      rw [hf]
      refine iteF ⟨_, rfl, tp, a, xs, rfl, SqX.at (e1 _ _ h), ?_⟩
      have ll := hp.length
      refine for_it walk_enX (fun i σ G => (∃ s2 s3 : Option V, σ = [some (.ref a), some (.ref fS), s2, s3]) ∧ Same H G ∧ ∀ j, j < i → ∀ r, rs[j]? = some r → r.isNone = false) ⟨⟨_, _, rfl⟩, e1, fun j hj => absurd hj (Nat.not_lt_zero j)⟩ (fun i σ G _ z => SqX.at (z.2.1 _ _ h)) (fun i x σ G G' hi z y => ?_) (fun σ G z => ?_)
      · obtain ⟨⟨s2, s3, rfl⟩, e2, hj⟩ := z
        obtain ⟨TT, x1, x2, rfl, hT, rfl, hx, hy⟩ := y
        obtain rfl : V.int (i : Nat) = x1 := Option.some.inj hx
        have hy : xs[i]? = some x2 := hy
        obtain ⟨r, hr2, th⟩ := Paired.at hp hy
        refine ⟨TT, _, rfl, SqT.of upd_same, rfl, .int (i : Nat), _, rfl, x2, _, rfl, rfl, rfl, _, rfl, x2, r, rfl, (th.same e2).same (Same.new hT), fun G2 e3 => ⟨_, rfl, ?_⟩⟩
        have e4 : Same H G2 := (e2.trans (Same.new hT)).trans e3
        cases hz : r with
        | none =>
          subst hz
          refine iteT ⟨_, rfl, ?_⟩
          have v : fstV rs = .int (i : Nat) := by
            unfold fstV
            have z : rs.findIdx? (fun r => r.isNone) = some i := by
              rw [List.findIdx?_eq_some_iff_getElem]
              obtain ⟨h1, h2⟩ := List.getElem?_eq_some_iff.mp hr2
              refine ⟨h1, by rw [h2] <;> rfl, fun j hji => ?_⟩
              have := hj j hji _ (List.getElem?_eq_getElem (by omega))
              rw [this] <;> decide
            rw [z]
          rw [← v]
          exact q _ e4
        | some s =>
          subst hz
          refine iteF ⟨⟨_, _, rfl⟩, e4, fun j hj2 r hr3 => ?_⟩
          by_cases z : j = i
          · rw [z, hr2] at hr3
            rw [← Option.some.inj hr3] <;> rfl
          · exact hj j (by omega) r hr3
      · obtain ⟨⟨s2, s3, rfl⟩, e2, hj⟩ := z
        have v : fstV rs = .non := by
          unfold fstV
          have z : rs.findIdx? (fun r => r.isNone) = none := by
            rw [List.findIdx?_eq_none_iff]
            intro r m
            obtain ⟨j, hj1, hj2⟩ := List.getElem_of_mem m
            exact hj j (by omega) r (by rw [List.getElem?_eq_getElem hj1, hj2])
          rw [z]
        rw [v] at q
        exact q _ e2
end
end OB
namespace OB
open PySem PySem.Spec PyProof.Rows L2
def rTupOf (K : PySem.W.Frag) : List V → Hp → VK → Prop := fun xs H Q => ∃ p ys, xs = [V.ref p] ∧ ((SqL K H p ys ∧ ∀ l, H l = none → Q (.ref l) (upd H l (.tup ys))) ∨ (SqT K H p ys ∧ Q (.ref p) H))
theorem call_tupK {X : Cx} {K : PySem.W.Frag} (h : X.K = K) : CallR X (.type "tuple") (rTupOf K) := by
  subst h
  exact call_tuple_of
theorem ix_XK {X : Cx} {K : PySem.W.Frag} (h : X.K = K) : IxR X (rIxX K) := by
  subst h
  exact ix_X
/-- what an own error class with a field says -/
structure ErrK (P : Program) (K : PySem.W.Frag) (mg : Str → Option Value) (x : Str) (C fI : Addr) (f : Str) : Prop where
  T : OE.Cl1 P K C fI f
  B : OE.Bds f
  g : mg x = some (.ref C)
  k : PySem.W.keepIn K (.ref C) = true
  ex : PySem.W.subIn K (.ref C) (.type "BaseException") = some true
  ty : PySem.W.typeIn K (.ref C) = some (.type "type")
abbrev sTold : Stmt := top 15
abbrev sIndex : Stmt := top 16
/-- the error of the class at C, keeping v as f -/
def Bad (E : XK) (H : Hp) (C : Addr) (f : Str) (v : V) : Prop := ∀ H' d, Same H H' → H d = none → H' d = some (.xd [(f, v)]) → E (.ref C) (some d) H'
theorem Bad.same {E : XK} {H H' : Hp} {C : Addr} {f : Str} {v : V} (h : Bad E H C f v) (e : Same H H') : Bad E H' C f v := fun G d e2 n g => h G d (e.trans e2) (e.free n) g
theorem Bad.raise {E : XK} {H : Hp} {C : Addr} {f : Str} {v : V} (h : Bad E H C f v) : ∀ d, H d = none → E (.ref C) (some d) (upd H d (.xd [(f, v)])) := fun d n => h _ d (Same.new n) n upd_same
def spTold (K : PySem.W.Frag) (CS : Addr) : Sp := fun vs H Q E => ∃ (v : V), vs = [v] ∧ ((∃ k, Any K H v k ∧ fSeq v k = false ∧ Bad E H CS "index" (.int 0)) ∨
  (∃ (a : Addr) (tp : Bool) (xs : List V) (rs : List (Option S3)), v = .ref a ∧ H a = some (mkX tp xs) ∧ Paired (Thing K H) xs rs ∧ xs.length < 1000 ∧ (∀ i, rs.findIdx? (fun r => r.isNone) = some i → Bad E H CS "index" (.int (i : Nat))) ∧
    ∀ ss : List S3, rs = ss.map some → ∀ H' D, Same H H' → H D = none → Row H' D ss → Q (.ref D) H'))
theorem none_all : ∀ {rs : List (Option S3)}, rs.findIdx? (fun r => r.isNone) = none → ∃ ss : List S3, rs = ss.map some
  | [], _ => ⟨[], rfl⟩
  | r :: rs, h => by
    rw [List.findIdx?_eq_none_iff] at h
    obtain ⟨ss, e⟩ := none_all (rs := rs) (by rw [List.findIdx?_eq_none_iff]; exact fun x m => h x (List.mem_cons_of_mem _ m))
    have z := h r (List.mem_cons_self ..)
    cases r with
    | none => cases z
    | some s => exact ⟨s :: ss, by rw [e] <;> rfl⟩
theorem stay_tup {K : PySem.W.Frag} {H : Hp} {v : V} {s : S3} (h : Thing K H v (some s)) : GoodS s ∧ ∃ tp t, v = .ref t ∧ H t = some (mkX tp [.int s.1, .int s.2.1, .int s.2.2]) := by
  generalize hr : (some s : Option S3) = r at h
  cases h with
  | @seq tp a xs h _ _ =>
    unfold stayOf at hr
    split at hr
    · rename_i b e l
      split at hr
      · rename_i g
        cases hr
        exact ⟨⟨g.1, g.2.2.2, g.2.2.1⟩, tp, a, rfl, h⟩
      · cases hr
    · cases hr
  | no _ _ => cases hr
section
variable {P : Program} {w : World} {K : PySem.W.Frag} {mg : Str → Option Value} {base : Heap}
theorem scTold : FnScope ["stays", "wrong", "stay"] ["stays"] (defScope sTold) := ⟨rfl, rfl, rfl, by decide +kernel, rfl, by decide +kernel, by decide +kernel⟩
theorem ok_told {f fF fS CS fI : Addr} {fd fdF : FuncData} (F : Fun K "told_stays" "told_stays" sTold f fd) (T : TxtC mg) (gS : mg "is_stay" = some (.ref fS))
    (GF : FnOk P w K mg base CX0 4 fF fdF ["things", "is_right"] (spFirst K fS)) (gF : mg "first_wrong" = some (.ref fF)) (kF : PySem.W.keepIn K (.ref fF) = true) (bF : Binds K fdF ["things", "is_right"] [])
    (EA : ErrK P K mg "BadStays" CS fI "index") (htop : (P.main.scope.names.lookup ("super" : Str)).isSome = false) : FnOk P w K mg base (L2.CX P w) 5 f fd ["stays"] (spTold K CS) := by
  refine F.okX scTold (fun vs H Q E h => ?_) (fun cdv A outer s H vs Q E hr h => ?_)
  · obtain ⟨v, rfl, _⟩ := h
    rfl
  · obtain ⟨v, rfl, h⟩ := h
    have nd := scTold.nd
    refine ⟨_, pss_cons (ps_set (i := 1) nd rfl (Or.inl rfl) (pe_call GF hr (by rfl) gF kF bF .nil pass0 (pa_cons (pv 0) (pa_cons (pe_glob (v := .ref fS) (by rfl) gS rfl) pa_nil))))
      (pss_cons (ps_if (pt_cmpR op_notN (pv 1) pe_non (nomark _))
        (pss_one (ps_raise rfl (takes_of rfl rfl rfl rfl) (pmk_err EA.T EA.B hr htop (by rfl) EA.g EA.k EA.ex EA.ty (by exact (pa_cons (pv 1) pa_nil)) rfl))) pss_nil)
      (pss_one (ps_ret (pe_lc (own := [("stay", 2)]) (g := gName 2) (tt := tYes) rfl nd (pi_X (pv 0)) (blkOk_by (N := ["stays", "wrong", "stay"]) (sc := defScope sTold) (by decide +kernel))
        (fun _ _ _ _ _ => pg_name (i := 2) nd rfl (Or.inl rfl)) (fun _ _ _ _ _ => pts_nil) (fun _ _ _ _ _ => pe_callTy (call_tupK (K := K) rfl) (by rfl) T.tuple bTuple (pa_cons (pv 2) pa_nil)))))), ?_⟩
    rcases h with ⟨k, h, hf, q⟩ | ⟨a, tp, xs, rs, rfl, h, hp, hl, hbad, q⟩
    · refine ⟨_, rfl, v, rfl, .inl ⟨k, h, hf, fun H1 e1 => ⟨_, rfl, rfl, _, rfl, ?_⟩⟩⟩
      exact iteT ⟨_, rfl, _, rfl, fun d nd => (q.same e1).raise d nd⟩
    · refine ⟨_, rfl, _, rfl, .inr ⟨a, tp, xs, rs, rfl, h, hp, hl, fun H1 e1 => ⟨_, rfl, rfl, _, rfl, ?_⟩⟩⟩
      unfold fstV
      cases hfi : rs.findIdx? (fun r => r.isNone) with
      | some i => exact iteT ⟨_, rfl, _, rfl, fun d nd => ((hbad i hfi).same e1).raise d nd⟩
      | none =>
        obtain ⟨ss, rfl⟩ := none_all hfi
        have sx := SqX.at (K := K) (e1 _ _ h)
        refine iteF ⟨_, rfl, tp, a, xs, rfl, sx, fun D nD => ?_⟩
        have ll := hp.length
        rw [List.length_map] at ll
        have hp2 := Paired.unmap hp
        refine lc_it walk_X (fun i G => ButS D H1 G ∧ ∃ us, G D = some (.lst us) ∧ us.length = i ∧ Paired (St G) us (ss.take i)) ⟨ButS.put, [], upd_same, rfl, by rw [List.take_zero]; exact .nil⟩ (fun i G _ z => sx.same fun b o e => z.1 b o (ne_of_none e nD) e) (fun i x G G' hi z y => ?_) (fun G z => ?_)
        · obtain ⟨rfl, hx⟩ := y
          obtain ⟨B, us, gD, lu, pu⟩ := z
          refine ⟨rfl, ?_⟩
          dsimp only [tYes]
          rw [if_pos rfl]
          obtain ⟨s, hs, th⟩ := Paired.at hp2 hx
          obtain ⟨_, tq, t, rfl, ht⟩ := stay_tup th
          have eG : Same H G' := fun b o e => B b o (ne_of_none (e1 _ _ e) nD) (e1 _ _ e)
          have ht2 := eG _ _ ht
          have tD : t ≠ D := ne_of_none (e1 _ _ ht) nD
          have fin : ∀ (r : Addr) (G2 : Hp), Same G' G2 → r ≠ D → G2 r = some (.tup [.int s.1, .int s.2.1, .int s.2.2]) → ∃ acc, G2 D = some (.lst acc) ∧ acc.length < sizeLine ∧ (ButS D H1 (upd G2 D (.lst (acc ++ [.ref r]))) ∧ ∃ us, (upd G2 D (.lst (acc ++ [.ref r]))) D = some (.lst us) ∧ us.length = i + 1 ∧ Paired (St (upd G2 D (.lst (acc ++ [.ref r])))) us (ss.take (i + 1))) := fun r G2 e2 rD hr2 => by
            have keep : ∀ v s, St G' v s → St (upd G2 D (.lst (us ++ [.ref r]))) v s := fun v s z => by
              obtain ⟨t', e', h'⟩ := z
              refine ⟨t', e', ?_⟩
              rw [upd_ne (ne_of (e2 _ _ h') (e2 _ _ gD) (by intro z; cases z))]
              exact e2 _ _ h'
            refine ⟨us, e2 _ _ gD, by rw [sizeLine_eq]; omega, (B.trans (ButS.same e2)).trans ButS.put, _, upd_same, by rw [List.length_append, lu] <;> rfl, ?_⟩
            rw [List.take_add_one, hs]
            exact Paired.snoc (Paired.imp keep pu) ⟨r, rfl, by rw [upd_ne rD]; exact hr2⟩
          cases tq with
          | true => exact ⟨_, rfl, t, _, rfl, .inr ⟨SqT.of ht2, fin t G' (Same.refl G') tD ht2⟩⟩
          | false => exact ⟨_, rfl, t, _, rfl, .inl ⟨SqL.of ht2, fun l nl => fin l _ (Same.new nl) (ne_of_none gD nl).symm upd_same⟩⟩
        · obtain ⟨B, us, gD, lu, pu⟩ := z
          rw [ll, List.take_length] at pu
          exact q ss rfl G D (fun b o e => B b o (ne_of_none (e1 _ _ e) nD) (e1 _ _ e)) (e1.free nD) ⟨us, gD, pu⟩
/-! ### numbers that are asked for -/
def spNum (K : PySem.W.Frag) (C : Addr) (f : Str) : Sp := fun vs H Q E => ∃ (v : V) (k : Kd), vs = [v] ∧ Any K H v k ∧ (numV v = false → Bad E H C f v) ∧ (numV v = true → ∀ H', Same H H' → Q .non H')
/-- is an index of a list of so many -/
def ixV (n : Nat) (v : V) : Bool := match v with
  | .int i => decide (0 ≤ i) && decide (i < (n : Int))
  | _ => false
def spIdx (K : PySem.W.Frag) (C : Addr) : Sp := fun vs H Q E => ∃ (a : Addr) (xs : List V) (v : V) (k : Kd), vs = [.ref a, v] ∧ SqL K H a xs ∧ Any K H v k ∧ (ixV xs.length v = false → Bad E H C "index" v) ∧ (ixV xs.length v = true → ∀ H', Same H H' → Q .non H')
theorem scIdx : FnScope ["stays", "index"] ["stays", "index"] (defScope sIndex) := ⟨rfl, rfl, rfl, by decide +kernel, rfl, by decide +kernel, by decide +kernel⟩
theorem ok_idx {f fN C fI : Addr} {fd fdN : FuncData} (F : Fun K "check_index" "check_index" sIndex f fd) (T : TxtC mg)
    (GN : FnOk P w K mg base CX0 2 fN fdN ["thing"] (spAsk K (numFrom 0))) (gN : mg "is_number" = some (.ref fN)) (kN : PySem.W.keepIn K (.ref fN) = true) (bN : Binds K fdN ["thing"] [])
    (EA : ErrK P K mg "BadIndex" C fI "index") (htop : (P.main.scope.names.lookup ("super" : Str)).isSome = false) : FnOk P w K mg base (L2.CX P w) 3 f fd ["stays", "index"] (spIdx K C) := by
  refine F.okX scIdx (fun vs H Q E h => ?_) (fun cdv A outer s H vs Q E hr h => ?_)
  · obtain ⟨a, xs, v, k, rfl, _⟩ := h
    rfl
  · obtain ⟨a, xs, v, k, rfl, hs, av, hbad, q⟩ := h
    refine ⟨_, pss_one (ps_if (PW.pt (pw_or (pt_not (pt_val (pe_call GN hr (by rfl) gN kN bN .nil pass0 (pa_cons (pv 1) pa_nil)))) (pw_or1 (pt_cmpR op_ge (pv 1) (pe_callB call_len_seq (by rfl) T.len PySem.boot_len (pa_cons (pv 0) pa_nil)) (nomark _)))))
        (pss_one (ps_raise rfl (takes_of rfl rfl rfl rfl) (pmk_err EA.T EA.B hr htop (by rfl) EA.g EA.k EA.ex EA.ty (by exact (pa_cons (pv 1) pa_nil)) rfl))) pss_nil), ?_⟩
    refine ⟨_, rfl, v, k, rfl, av, fun H1 e1 => ⟨_, rfl, ?_⟩⟩
    rw [numV_eq]
    cases hn : numV v with
    | false =>
      have hi : ixV xs.length v = false := by
        cases v with
        | int i =>
          have z : decide (0 ≤ i) = false := hn
          show (decide (0 ≤ i) && _) = false
          rw [z] <;> rfl
        | _ => rfl
      exact iteT ⟨_, rfl, _, rfl, fun d nd => ((hbad hi).same e1).raise d nd⟩
    | true =>
      obtain ⟨i, rfl⟩ : ∃ i, v = .int i := by
        cases v with
        | int i => exact ⟨i, rfl⟩
        | _ => cases hn
      have z : decide (0 ≤ i) = true := hn
      refine iteF ⟨_, rfl, _, rfl, a, xs, rfl, .inl (Same.seq e1 hs), i, _, rfl, rfl, _, rfl, ?_⟩
      refine ite2 (fun h => ?_) (fun h => ?_)
      · have hi : ixV xs.length (.int i) = false := by
          show (decide (0 ≤ i) && decide (i < (xs.length : Int))) = false
          have := of_decide_eq_true h
          rw [decide_eq_false (show ¬ i < (xs.length : Int) by omega), Bool.and_false]
        exact ⟨_, rfl, _, rfl, fun d nd => ((hbad hi).same e1).raise d nd⟩
      · have hi : ixV xs.length (.int i) = true := by
          show (decide (0 ≤ i) && decide (i < (xs.length : Int))) = true
          have : ¬ ((xs.length : Int) ≤ i) := fun y => h (decide_eq_true y)
          rw [z, decide_eq_true (show i < (xs.length : Int) by omega)] <;> rfl
        exact q hi _ e1
end
end OB
/-! The mathematics of stays: plain lists of whole numbers. -/
namespace OM
abbrev S3 : Type := Int × Int × Int
def cLt (d : Int) (es : List Int) : Nat := es.countP fun e => decide (e < d)
def cLe (d : Int) (bs : List Int) : Nat := bs.countP fun b => decide (b ≤ d)
theorem sorted_lt {d : Int} : ∀ {es : List Int}, es.Pairwise (· ≤ ·) → ∀ j (h : j < es.length), (es[j] < d ↔ j < cLt d es)
  | [], _, j, h => absurd h (Nat.not_lt_zero j)
  | e :: t, s, j, h => by
    obtain ⟨s1, s2⟩ := List.pairwise_cons.mp s
    have ih := sorted_lt (d := d) s2
    unfold cLt at ih ⊢
    by_cases c : e < d
    · rw [List.countP_cons_of_pos (by simpa using c)]
      match j with
      | 0 => simpa using c
      | j + 1 =>
        have := ih j (by simpa using h)
        simp only [List.getElem_cons_succ]
        omega
    · rw [List.countP_cons_of_neg (by simpa using c)]
      have z : t.countP (fun e => decide (e < d)) = 0 := by
        rw [List.countP_eq_zero]
        intro a m
        have := s1 a m
        simp
        omega
      rw [z]
      have : ¬ (e :: t)[j] < d := by
        match j with
        | 0 => simpa using c
        | j + 1 =>
          have m := s1 _ (List.getElem_mem (show j < t.length by simpa using h))
          simp only [List.getElem_cons_succ]
          omega
      constructor
      · intro z; exact absurd z this
      · intro z; exact absurd z (Nat.not_lt_zero _)
theorem cLe_lt (d : Int) (bs : List Int) : cLe d bs = cLt (d + 1) bs := by
  unfold cLe cLt
  apply List.countP_congr
  intro b _
  simp
  omega
theorem sorted_le {d : Int} {bs : List Int} (s : bs.Pairwise (· ≤ ·)) (j : Nat) (h : j < bs.length) : (bs[j] ≤ d ↔ j < cLe d bs) := by
  rw [cLe_lt, ← sorted_lt s j h]
  omega
def cB (ps : List (Int × Int)) (d : Int) : Nat := ps.countP fun p => decide (p.1 ≤ d) && decide (d ≤ p.2)
theorem cB_eq {d : Int} : ∀ {ps : List (Int × Int)}, (∀ p ∈ ps, p.1 ≤ p.2) → cB ps d + cLt d (ps.map Prod.snd) = cLe d (ps.map Prod.fst)
  | [], _ => rfl
  | p :: ps, h => by
    have ih := cB_eq (d := d) (ps := ps) fun q m => h q (List.mem_cons_of_mem _ m)
    have hp := h p (List.mem_cons_self ..)
    unfold cB cLt cLe at ih ⊢
    simp only [List.map_cons, List.countP_cons, List.countP_map] at ih ⊢
    by_cases a : p.1 ≤ d <;> by_cases b : d ≤ p.2 <;> by_cases c : p.2 < d <;> simp [a, b, c] <;> omega
/-- the greatest, 0 at least -/
def maxL (l : List Int) : Int := l.foldr max 0
theorem maxL_ge : ∀ {l : List Int} {x : Int}, x ∈ 0 :: l → x ≤ maxL l
  | [], x, m => by
    have : x = 0 := by simpa using m
    rw [this]
    exact Int.le_refl _
  | a :: l, x, m => by
    have e : maxL (a :: l) = max a (maxL l) := rfl
    rw [e]
    rcases List.mem_cons.mp m with z | z
    · have := maxL_ge (l := l) (x := x) (by rw [z]; exact List.mem_cons_self ..)
      omega
    · rcases List.mem_cons.mp z with z | z
      · omega
      · have := maxL_ge (l := l) (x := x) (List.mem_cons_of_mem _ z)
        omega
theorem maxL_mem : ∀ {l : List Int}, maxL l ∈ 0 :: l
  | [] => List.mem_cons_self ..
  | a :: l => by
    have e : maxL (a :: l) = max a (maxL l) := rfl
    have ih := maxL_mem (l := l)
    rw [e]
    rcases Int.le_total a (maxL l) with z | z
    · rw [Int.max_eq_right z]
      rcases List.mem_cons.mp ih with y | y
      · rw [y]
        exact List.mem_cons_self ..
      · exact List.mem_cons_of_mem _ (List.mem_cons_of_mem _ y)
    · rw [Int.max_eq_left z]
      exact List.mem_cons_of_mem _ (List.mem_cons_self ..)
theorem maxL_eq {l : List Int} {m : Int} (h1 : m ∈ 0 :: l) (h2 : ∀ x ∈ 0 :: l, x ≤ m) : m = maxL l := Int.le_antisymm (maxL_ge h1) (h2 _ maxL_mem)
theorem maxL_le {l : List Int} {m : Int} (h0 : 0 ≤ m) (h : ∀ x ∈ l, x ≤ m) : maxL l ≤ m := by
  rcases List.mem_cons.mp (maxL_mem (l := l)) with z | z
  · rw [z]; exact h0
  · exact h _ z
def most (ps : List (Int × Int)) : Int := maxL (ps.map fun p => (cB ps p.1 : Int))
/-- what stands beside each begin -/
def counts (bs : List Int) (ps : List (Int × Int)) : List (Int × Int) := bs.mapIdx fun i d => (d, (i : Int) + 1 - cLt d (ps.map Prod.snd))
theorem counts_at {bs : List Int} {ps : List (Int × Int)} {i : Nat} {d : Int} (h : bs[i]? = some d) : (counts bs ps)[i]? = some (d, (i : Int) + 1 - cLt d (ps.map Prod.snd)) := by
  unfold counts
  rw [List.getElem?_mapIdx, h]
  rfl
theorem most_counts {bs : List Int} {ps : List (Int × Int)} (hp : ∀ p ∈ ps, p.1 ≤ p.2) (pm : bs.Perm (ps.map Prod.fst)) (s : bs.Pairwise (· ≤ ·)) : maxL ((counts bs ps).map Prod.snd) = most ps := by
  have le : ∀ d, cLe d bs = cLe d (ps.map Prod.fst) := fun d => pm.countP_eq _
  refine Int.le_antisymm (maxL_le (maxL_ge (List.mem_cons_self ..)) fun x m => ?_) (maxL_le (maxL_ge (List.mem_cons_self ..)) fun x m => ?_)
  · obtain ⟨y, m1, rfl⟩ := List.mem_map.mp m
    obtain ⟨i, hi, hy⟩ := List.getElem_of_mem m1
    have hl : (counts bs ps).length = bs.length := by unfold counts; simp
    rw [hl] at hi
    have z := counts_at (ps := ps) (List.getElem?_eq_getElem hi)
    rw [List.getElem?_eq_getElem (by omega), hy] at z
    obtain rfl := Option.some.inj z
    have m2 : bs[i] ∈ ps.map Prod.fst := pm.mem_iff.mp (List.getElem_mem hi)
    obtain ⟨p, mp, hp1⟩ := List.mem_map.mp m2
    have e := cB_eq (d := bs[i]) hp
    have g := (sorted_le s i hi).mp (Int.le_refl bs[i])
    rw [le] at g
    have t : (cB ps p.1 : Int) ≤ most ps := maxL_ge (List.mem_cons_of_mem _ (List.mem_map.mpr ⟨p, mp, rfl⟩))
    rw [hp1] at t
    show (i : Int) + 1 - cLt bs[i] (ps.map Prod.snd) ≤ most ps
    omega
  · obtain ⟨p, mp, rfl⟩ := List.mem_map.mp m
    have mb : p.1 ∈ bs := pm.mem_iff.mpr (List.mem_map.mpr ⟨p, mp, rfl⟩)
    obtain ⟨k, hk, ek⟩ := List.getElem_of_mem mb
    have k1 := (sorted_le (d := p.1) s k hk).mp (by rw [ek]; exact Int.le_refl _)
    have lc : cLe p.1 bs ≤ bs.length := List.countP_le_length
    have hi : cLe p.1 bs - 1 < bs.length := by omega
    have i1 := (sorted_le (d := p.1) s _ hi).mpr (by omega)
    have i2 : bs[k] ≤ bs[cLe p.1 bs - 1] := by
      rcases Nat.lt_or_eq_of_le (show k ≤ cLe p.1 bs - 1 by omega) with z | z
      · exact List.pairwise_iff_getElem.mp s _ _ hk hi z
      · simp [← z]
    have e1 : bs[cLe p.1 bs - 1] = p.1 := by omega
    have z := counts_at (ps := ps) (List.getElem?_eq_getElem hi)
    rw [e1] at z
    have m3 := List.mem_of_getElem? z
    have t := maxL_ge (l := (counts bs ps).map Prod.snd) (List.mem_cons_of_mem _ (List.mem_map.mpr ⟨_, m3, rfl⟩))
    have e := cB_eq (d := p.1) hp
    rw [← le] at e
    have t2 : ((cLe p.1 bs - 1 : Nat) : Int) + 1 - cLt p.1 (ps.map Prod.snd) ≤ maxL ((counts bs ps).map Prod.snd) := t
    omega
/-- the days from which and to which stays bind -/
def spans (ss : List S3) : List (Int × Int) := ss.map fun s => (s.1, s.2.1 + s.2.2)
/-- how many addresses they need -/
def need (ss : List S3) : Int := most (spans ss)
def short (ss : List S3) (l : Int) : List S3 := ss.map fun s => (s.1, s.2.1, min s.2.2 l)
def GoodS (s : S3) : Prop := 0 ≤ s.1 ∧ s.1 ≤ s.2.1 ∧ 0 ≤ s.2.2
theorem spans_ok {ss : List S3} (h : ∀ s ∈ ss, GoodS s) : ∀ p ∈ spans ss, p.1 ≤ p.2 := fun p m => by
  obtain ⟨s, ms, rfl⟩ := List.mem_map.mp m
  obtain ⟨h1, h2, h3⟩ := h s ms
  show s.1 ≤ s.2.1 + s.2.2
  omega
end OM
namespace OB
open PySem PySem.Spec PyProof.Rows L2
/-! ### enumerate(list, start=k) -/
section
variable {M : Model} {A : Around} {E : Value → Shared → Prop} {s : Shared} {env : Env}
theorem cw_typeK {pos : Pos} {T : String} {e : Expr} {rest : List Expr} {kws : List Keyword} {Q : Value → Shared → Prop}
    (h : wpAny M A (spliced (backTo pos (starEach (e :: rest) env))) (fun vs s₁ => wpAny M A (evalAll ((backToKw pos (keywordEach kws env)).map (·.2)))
      (fun kvs s₂ => wpAny M A (call (.type T) vs (((backToKw pos (keywordEach kws env)).filterMap (·.1)).zip kvs)) Q E s₂) E s₁) E s)
    (he : backTo pos (starEach (e :: rest) env) = (false, eval e env) :: backTo pos (starEach rest env))
    (hplain : (backTo pos (starEach (e :: rest) env)).any (·.1) = false)
    (hall : (backToKw pos (keywordEach kws env)).all (·.1.isSome) = true)
    (hkw : (backToKw pos (keywordEach kws env)).any (·.1.isNone) = false) :
    wpAny M A (callWith pos (.type T) [] (backTo pos (starEach (e :: rest) env)) (backToKw pos (keywordEach kws env))) Q E s := by
  have ar : wpAny M A (evalArgs (.type T) true (backTo pos (starEach (e :: rest) env)) (backToKw pos (keywordEach kws env))) (fun a s₁ => wpAny M A (call (.type T) a.pos a.kw) Q E s₁) E s := by
    rw [he] at h ⊢
    exact evalArgs_kwB hall h
  unfold callWith
  refine wpAny_bind (wpAny_holding (wpAny_mono ar (fun a s₁ h₁ => wpAny_bind (wpAny_standAt ?_)) fun _ _ x => x))
  simp only [hplain, hkw, Bool.or_false]
  refine wpAny_bind (wpAny_pure ?_)
  exact wpAny_bind (wpAny_mono h₁ (fun r s₂ hr => wpAny_bind (wpAny_holding (wpAny_point (wpAny_pure hr)))) fun _ _ x => x)
end
/-- the list at a, each item in a new pair with its place and k more -/
def IteS (K : PySem.W.Frag) (a : Addr) (k : Int) : It :=
  ⟨fun i H => ∃ (xs : List V) (x : V), SqL K H a xs ∧ xs[i]? = some x, fun i H v H' => ∃ T x, v = .ref T ∧ H T = none ∧ H' = upd H T (.tup [.int (k + (i : Nat)), x]) ∧ ∀ xs, SqL K H a xs → xs[i]? = some x, fun i H => ∃ xs : List V, SqL K H a xs ∧ xs.length = i⟩
theorem lst_ne {h : Heap} {a it : Addr} {items : Array Value} {i : Nat} (p : h.IsList a items) (q : h.IsListIter it a i) : a ≠ it := fun z => by
  obtain ⟨o, e, c, _⟩ := p
  obtain ⟨o2, e2, c2, _⟩ := q
  rw [z, e2] at e
  cases e
  rw [c2] at c
  exact absurd c (by decide)
theorem turn_enS {P : Program} {w : World} {K : PySem.W.Frag} {elts : List Expr} {kk : Nat} {tpos : Pos} (k : Int) (a e it : Addr) :
    Turn P w K (.Tuple elts kk tpos) (IteS K a k) [e, it] e (fun i h => (∃ old, IsEnum h e it (k + (i : Int)) old) ∧ h.IsListIter it a i ∧ e ≠ it) where
  mem := by simp
  obj := fun i h st b hb => by
    obtain ⟨⟨old, he⟩, ⟨o, ho, hc, hd⟩, _⟩ := st
    rcases (show b = e ∨ b = it by simpa using hb) with z | z
    · rw [z]
      exact ⟨_, he, fun v q => nomatch q⟩
    · rw [z]
      exact ⟨o, ho, fun v q => by rw [hd] at q; cases q⟩
  keep := fun i h h' st k => by
    obtain ⟨⟨old, he⟩, hi, hne⟩ := st
    exact ⟨⟨old, k e (by simp) _ he⟩, hi.at fun o q => k it (by simp) o q, hne⟩
  item := by
    intro X hP hw hK hc i pins s σ H E I hf st hg
    subst hP hw hK
    obtain ⟨⟨old, he⟩, hit, hne⟩ := st
    obtain ⟨xs, x, hq, hx⟩ := hg
    obtain ⟨its, rv, p, hz⟩ := I.list hq
    have p' : s.heap.IsList a its.toArray := p.isList
    have ea : e ≠ a := fun z => by
      obtain ⟨o, eo, c, _⟩ := p'
      rw [← z, he] at eo
      cases eo
      exact absurd (show Value.type "enumerate" = Value.type "list" from c) (by decide)
    have D := Draws.list (prog := X.prog) (w := X.w) (A := X.A.in1) (I.ok.hd hc) it a (lst_ne p' hit) its.toArray
    have G := GoesN.enumFrom (elts := elts) (x1 := kk) (pos := tpos) k D e hne (by simp [hne, ea]) (by simp)
    have hi : i < its.toArray.size := by
      have l := rv.length
      have l2 : i < xs.length := (List.getElem?_eq_some_iff.mp hx).1
      simp
      omega
    have hlt : ∀ b ∈ [e, it], b < s.heap.objs.size := fun b hb => by
      rcases (show b = e ∨ b = it by simpa using hb) with z | z
      · rw [z]
        exact Heap.lt_size he
      · rw [z]
        obtain ⟨_, q, _⟩ := hit
        exact Heap.lt_size q
    refine G.goes i s _ _ hi ⟨⟨old, he⟩, hit, p'⟩ fun v h' tk hY st' hk htk => ?_
    obtain ⟨T, t, u, rfl, hT, hu, hTup⟩ := hY
    obtain ⟨⟨old', he'⟩, hit', _⟩ := st'
    have hu' : its[i]? = some u := by simpa using hu
    obtain ⟨u2, hu2, ru⟩ := rv.get hx
    rw [hu'] at hu2
    cases hu2
    obtain ⟨oT, eT, cT, nT, dT⟩ := hTup
    have new : ObjOk X.prog X.w (upd H T (.tup [.int (k + (i : Nat)), x])) h' T (.tup [.int (k + (i : Nat)), x]) :=
      ⟨by show 2 ≤ sizeLine; decide, [.int (k + (i : Int)) t, u], .cons ⟨t, rfl⟩ (.cons ru .nil), ⟨oT, eT, cT, nT, dT⟩⟩
    have I1 : Inv X pins σ (upd H T (.tup [.int (k + (i : Nat)), x])) { s with heap := h', toks := tk } := I.turnedNew (t' := tk) (ch := [e, it]) hk hf hT new
    exact ⟨.ref T, _, I1, rfl, ⟨T, x, rfl, I.hok.fresh hT, rfl, fun ys hy => by rw [I.list_inj hy hq]; exact hx⟩, ⟨⟨old', he'⟩, hit', hne⟩, fun b hb => by
      rw [upd_ne (Nat.ne_of_lt (Nat.lt_of_lt_of_le (hlt b hb) hT))]
      exact (hf b hb).1⟩
  done := by
    intro X hP hw hK hc i pins s σ H E I hf st hg
    subst hP hw hK
    obtain ⟨⟨old, he⟩, hit, hne⟩ := st
    obtain ⟨xs, hq, hx⟩ := hg
    obtain ⟨its, rv, p, hz⟩ := I.list hq
    have p' : s.heap.IsList a its.toArray := p.isList
    have ea : e ≠ a := fun z => by
      obtain ⟨o, eo, c, _⟩ := p'
      rw [← z, he] at eo
      cases eo
      exact absurd (show Value.type "enumerate" = Value.type "list" from c) (by decide)
    have D := Draws.list (prog := X.prog) (w := X.w) (A := X.A.in1) (I.ok.hd hc) it a (lst_ne p' hit) its.toArray
    have G := GoesN.enumFrom (elts := elts) (x1 := kk) (pos := tpos) k D e hne (by simp [hne, ea]) (by simp)
    have hn : its.toArray.size = i := by
      have l := rv.length
      simp
      omega
    refine G.stops s _ _ (by rw [hn]; exact ⟨⟨old, he⟩, hit, p'⟩) fun h' tk hk htk => ?_
    exact I.turnedL (t' := tk) (ch := [e, it]) hk hf
  self := fun A i s Q E st h => by
    obtain ⟨⟨_, he⟩, _⟩ := st
    exact wpAny_pyIter_enum he h
def iEnS (K : PySem.W.Frag) (k : Int) (ta : TA) : TI := fun σ H R => ta σ H fun vs H1 => ∃ a xs, vs = [.ref a] ∧ SqL K H1 a xs ∧ R (IteS K a k) H1
theorem pi_enS {X : Cx} {e ke : Expr} {ta : TA} {p pos tpos kp : Pos} {elts : List Expr} {kk : Nat} {k : Int} (hk0 : -(2 ^ 63) ≤ k) (hk1 : k < 2 ^ 63) (hg : Gl X "enumerate") (hm : X.mg "enumerate" = none) (ha : PA X [e] ta) (hke : PE X ke (tC (.int k)))
    (he : backTo pos (starEach [e] X.env) = (false, eval e X.env) :: backTo pos (starEach [] X.env) := by rfl) (hpl : (backTo pos (starEach [e] X.env)).any (·.1) = false := by rfl)
    (hall : (backToKw pos (keywordEach [⟨some "start", ke, kp⟩] X.env)).all (·.1.isSome) = true := by rfl) (hnone : (backToKw pos (keywordEach [⟨some "start", ke, kp⟩] X.env)).any (·.1.isNone) = false := by rfl)
    (hks : (backToKw pos (keywordEach [⟨some "start", ke, kp⟩] X.env)).filterMap (·.1) = [Str.ofString "start"] := by rfl) :
    PI X (.Tuple elts kk tpos) (.Call (.Name "enumerate" p) [e] [⟨some "start", ke, kp⟩] pos) (iEnS X.K k ta) := by
  refine ⟨fun pins s σ H R I h => ?_⟩
  refine wpAny_Call_Name_kw (ld_blt I hg hm boot_enumerate ?_)
  refine cw_typeK (thn (ha.run pos pins s σ H _ I h) fun us s1 ⟨vs, H1, I1, r1, q1⟩ => thn ((pk_cons hke pk_nil).run pos pins s1 σ H1 (fun zs H2 => zs = [.int k] ∧ H2 = H1) I1 ⟨rfl, rfl⟩) fun ws s2 ⟨zs, H2, I2, r2, q2⟩ => ?_) he hpl hall hnone
  obtain ⟨rfl, rfl⟩ := q2
  rw [hks]
  obtain ⟨a, xs, rfl, hq, q⟩ := q1
  have fresh2 : ∀ b, b ∈ [s2.heap.objs.size + 1, s2.heap.objs.size] → FpOk X pins H2 b := fun b hb => by
    have le : s2.heap.objs.size ≤ b := by
      rcases (show b = s2.heap.objs.size + 1 ∨ b = s2.heap.objs.size by simpa using hb) with z | z <;> omega
    exact I2.fpOk le (I2.hok.fresh le)
  cases r1 with
  | cons r rr =>
    cases rr
    cases r
    cases r2 with
    | cons r rr =>
      cases rr
      obtain ⟨tk, rfl⟩ := r
      obtain ⟨its, rv, p', hz⟩ := I2.list hq
      show wpAny _ _ (call (.type "enumerate") [.ref a] [(Str.ofString "start", .int k tk)]) _ _ _
      refine enum_begins_start (begins_list a its.toArray) p'.isList hk0 hk1 fun h' he2 ho hsz hkk => wpAny_pyIter_enum he2 ?_
      exact ⟨s2.heap.objs.size + 1, [s2.heap.objs.size + 1, s2.heap.objs.size], _, _, H2, rfl, I2.kept (t' := s2.toks) hkk, turn_enS k a (s2.heap.objs.size + 1) s2.heap.objs.size, ⟨⟨.none, by simpa using he2⟩, ⟨_, ho, rfl, rfl⟩, Nat.succ_ne_self _⟩, fresh2, q⟩
theorem walk_enS {K : PySem.W.Frag} {a : Addr} {k : Int} {xs : List V} : Walk (IteS K a k) xs.length (fun H => SqL K H a xs) (YPair (fun i => some (.int (k + (i : Nat)))) (fun i => xs[i]?)) := by
  refine ⟨fun i _ hi q => ⟨xs, xs[i], q, by simp [hi]⟩, fun _ q => ⟨xs, q, rfl⟩, fun i H v H' _ q y => ?_⟩
  obtain ⟨T, x, h1, h2, h3, h4⟩ := y
  exact ⟨T, .int (k + (i : Nat)), x, h1, h2, h3, rfl, h4 xs q⟩
end OB
namespace OB
open PySem PySem.Spec PyProof.Rows L2
/-- a pair of whole numbers -/
def Sp2 (H : Hp) (v : V) (p : Int × Int) : Prop := ∃ t : Addr, v = .ref t ∧ H t = some (.tup [.int p.1, .int p.2])
theorem Sp2.same {H H' : Hp} {v : V} {p : Int × Int} (h : Sp2 H v p) (e : Same H H') : Sp2 H' v p := by
  obtain ⟨t, z, h⟩ := h
  exact ⟨t, z, e _ _ h⟩
def PRow (H : Hp) (a : Addr) (ps : List (Int × Int)) : Prop := ∃ vs, H a = some (.lst vs) ∧ Paired (Sp2 H) vs ps
theorem PRow.same {H H' : Hp} {a : Addr} {ps : List (Int × Int)} (h : PRow H a ps) (e : Same H H') : PRow H' a ps := by
  obtain ⟨vs, h1, h2⟩ := h
  exact ⟨vs, e _ _ h1, Paired.imp (fun _ _ z => Sp2.same z e) h2⟩
theorem Sp2.putL {H : Hp} {v : V} {p : Int × Int} {D : Addr} {xs ys : List V} (h : Sp2 H v p) (hD : H D = some (.lst xs)) : Sp2 (upd H D (.lst ys)) v p := by
  obtain ⟨t, z, h⟩ := h
  refine ⟨t, z, ?_⟩
  rw [upd_ne (ne_of h hD (by intro z; cases z))]
  exact h
def spCounts : Sp := fun vs H Q _ => ∃ (a : Addr) (ps : List (Int × Int)), vs = [.ref a] ∧ PRow H a ps ∧ ps.length ≤ 1000 ∧ (∀ p ∈ ps, p.1 ≤ p.2) ∧ ∀ H' D bs, bs.Perm (ps.map Prod.fst) → bs.Pairwise (· ≤ ·) → Same H H' → H D = none → PRow H' D (OM.counts bs ps) → Q (.ref D) H'
def spMost : Sp := fun vs H Q _ => ∃ (a : Addr) (ps : List (Int × Int)), vs = [.ref a] ∧ PRow H a ps ∧ ps.length ≤ 1000 ∧ (∀ p ∈ ps, p.1 ≤ p.2) ∧ ∀ H', Same H H' → Q (.int (OM.most ps)) H'
section
variable {P : Program} {w : World} {K : PySem.W.Frag} {mg : Str → Option Value} {base : Heap}
end
end OB
namespace OB
open PySem PySem.Spec PyProof.Rows L2
theorem good_m {ss : List S3} (g : Good ss) : ∀ s ∈ ss, OM.GoodS s := fun s m => g s m
theorem St.putL {H : Hp} {v : V} {s : S3} {D : Addr} {xs ys : List V} (h : St H v s) (hD : H D = some (.lst xs)) : St (upd H D (.lst ys)) v s := by
  obtain ⟨t, z, h⟩ := h
  refine ⟨t, z, ?_⟩
  rw [upd_ne (ne_of h hD (by intro z; cases z))]
  exact h
/-- a list that grows by new tuples -/
def GrowP {β : Type} (R : Hp → V → β → Prop) (D : Addr) (H1 : Hp) (ys : List β) (i : Nat) (H : Hp) : Prop := ButS D H1 H ∧ ∃ us, H D = some (.lst us) ∧ us.length = i ∧ Paired (R H) us (ys.take i)
theorem grow_start {β : Type} {R : Hp → V → β → Prop} {D : Addr} {H1 : Hp} {ys : List β} : GrowP R D H1 ys 0 (upd H1 D (.lst [])) := ⟨ButS.put, [], upd_same, rfl, by rw [List.take_zero]; exact .nil⟩
theorem grow_same {β : Type} {R : Hp → V → β → Prop} {D : Addr} {H0 H1 H : Hp} {ys : List β} {i : Nat} (q : GrowP R D H1 ys i H) (e : Same H0 H1) (n : H1 D = none) : Same H0 H := fun b o h => q.1 b o (ne_of_none (e _ _ h) n) (e _ _ h)
theorem grow_in {β : Type} {R : Hp → V → β → Prop} {D : Addr} {H1 H H4 : Hp} {ys : List β} {i : Nat} {y : β} {v : V} (st : ∀ G G' v b, Same G G' → R G v b → R G' v b) (pu : ∀ G v b xs zs, G D = some (.lst xs) → R G v b → R (upd G D (.lst zs)) v b)
    (q : GrowP R D H1 ys i H) (hy : ys[i]? = some y) (l : i < 1000000) (e : Same H H4) (r : R H4 v y) : ∃ a, H4 D = some (.lst a) ∧ a.length < sizeLine ∧ GrowP R D H1 ys (i + 1) (upd H4 D (.lst (a ++ [v]))) := by
  obtain ⟨B, us, gD, lu, p⟩ := q
  have gD2 := e _ _ gD
  refine ⟨us, gD2, by rw [sizeLine_eq]; omega, (B.trans (ButS.same e)).trans ButS.put, us ++ [v], upd_same, by rw [List.length_append, lu] <;> rfl, ?_⟩
  rw [List.take_add_one, hy]
  exact Paired.snoc (Paired.imp (fun _ _ z => pu _ _ _ _ _ gD2 (st _ _ _ _ e z)) p) (pu _ _ _ _ _ gD2 r)
theorem grow_end {β : Type} {R : Hp → V → β → Prop} {D : Addr} {H1 H : Hp} {ys : List β} {n : Nat} (q : GrowP R D H1 ys n H) (l : n = ys.length) : ∃ us, H D = some (.lst us) ∧ Paired (R H) us ys := by
  obtain ⟨B, us, gD, lu, p⟩ := q
  rw [l, List.take_length] at p
  exact ⟨us, gD, p⟩
theorem St.st : ∀ (G G' : Hp) (v : V) (b : S3), Same G G' → St G v b → St G' v b := fun _ _ _ _ e h => h.same e
theorem Sp2.st : ∀ (G G' : Hp) (v : V) (b : Int × Int), Same G G' → Sp2 G v b → Sp2 G' v b := fun _ _ _ _ e h => h.same e
def spBound : Sp := fun vs H Q _ => ∃ (a : Addr) (ss : List S3), vs = [.ref a] ∧ Row H a ss ∧ ss.length ≤ 1000 ∧ ∀ H' D, Same H H' → H D = none → PRow H' D (OM.spans ss) → Q (.ref D) H'
def spShort : Sp := fun vs H Q _ => ∃ (a : Addr) (ss : List S3) (l : Int), vs = [.ref a, .int l] ∧ Row H a ss ∧ ss.length ≤ 1000 ∧ ∀ H' D, Same H H' → H D = none → Row H' D (OM.short ss l) → Q (.ref D) H'
def tThree (i : Nat) : Prop := True
section
variable {P : Program} {w : World} {K : PySem.W.Frag} {mg : Str → Option Value} {base : Heap}
end
end OB
namespace OB
open PySem PySem.Spec PyProof.Rows L2
/-! ### what is passed as stays -/
def ArgS (K : PySem.W.Frag) (H : Hp) (v : V) (r : Nat ⊕ List S3) : Prop := match r with
  | .inl i => (i = 0 ∧ ∃ k, Any K H v k ∧ fSeq v k = false) ∨ (∃ (a : Addr) (tp : Bool) (xs : List V) (rs : List (Option S3)), v = .ref a ∧ H a = some (mkX tp xs) ∧ Paired (Thing K H) xs rs ∧ xs.length < 1000 ∧ rs.findIdx? (fun r => r.isNone) = some i)
  | .inr ss => ∃ (a : Addr) (tp : Bool) (xs : List V), v = .ref a ∧ H a = some (mkX tp xs) ∧ Paired (Thing K H) xs (ss.map some) ∧ xs.length < 1000
theorem ArgS.same {K : PySem.W.Frag} {H H' : Hp} {v : V} {r : Nat ⊕ List S3} (h : ArgS K H v r) (e : Same H H') : ArgS K H' v r := by
  cases r with
  | inl i =>
    rcases h with ⟨h0, k, h1, h2⟩ | ⟨a, tp, xs, rs, h1, h2, h3, h4, h5⟩
    · exact .inl ⟨h0, k, h1.same e, h2⟩
    · exact .inr ⟨a, tp, xs, rs, h1, e _ _ h2, Paired.imp (fun _ _ z => Thing.same z e) h3, h4, h5⟩
  | inr ss =>
    obtain ⟨a, tp, xs, h1, h2, h3, h4⟩ := h
    exact ⟨a, tp, xs, h1, e _ _ h2, Paired.imp (fun _ _ z => Thing.same z e) h3, h4⟩
theorem LRow.arg {K : PySem.W.Frag} {H : Hp} {a : Addr} {ss : List S3} (h : LRow H a ss) (g : Good ss) (l : ss.length < 1000) : ArgS K H (.ref a) (.inr ss) := by
  obtain ⟨tp, vs, h1, h2⟩ := h.things (K := K) g
  have := h2.length
  rw [List.length_map] at this
  exact ⟨a, tp, vs, rfl, h1, h2, by omega⟩
theorem things_good {K : PySem.W.Frag} {H : Hp} : ∀ {xs : List V} {ss : List S3}, Paired (Thing K H) xs (ss.map some) → Good ss
  | _, [], _ => fun s m => by cases m
  | _, s :: ss, .cons r t => fun x m => by
    rcases List.mem_cons.mp m with z | z
    · rw [z]
      exact (stay_tup r).1
    · exact things_good t x z
theorem ArgS.good {K : PySem.W.Frag} {H : Hp} {v : V} {ss : List S3} (h : ArgS K H v (.inr ss)) : Good ss ∧ ss.length < 1000 := by
  obtain ⟨a, tp, xs, h1, h2, h3, h4⟩ := h
  have := h3.length
  rw [List.length_map] at this
  exact ⟨things_good h3, by omega⟩
theorem told_arg {K : PySem.W.Frag} {CS : Addr} {H : Hp} {v : V} {r : Nat ⊕ List S3} {Q : VK} {E : XK} (h : ArgS K H v r) (hb : ∀ i, r = .inl i → Bad E H CS "index" (.int (i : Nat)))
    (hk : ∀ ss, r = .inr ss → ∀ H' D, Same H H' → H D = none → Row H' D ss → Q (.ref D) H') : spTold K CS [v] H Q E := by
  cases r with
  | inl i =>
    rcases h with ⟨h0, k, h1, h2⟩ | ⟨a, tp, xs, rs, h1, h2, h3, h4, h5⟩
    · subst h0
      exact ⟨v, rfl, .inl ⟨k, h1, h2, hb 0 rfl⟩⟩
    · refine ⟨v, rfl, .inr ⟨a, tp, xs, rs, h1, h2, h3, h4, fun j hj => ?_, fun ss e => ?_⟩⟩
      · rw [h5] at hj
        obtain rfl := Option.some.inj hj
        exact hb i rfl
      · exfalso
        subst e
        obtain ⟨z1, z2, _⟩ := List.findIdx?_eq_some_iff_getElem.mp h5
        simp at z2
  | inr ss =>
    obtain ⟨a, tp, xs, h1, h2, h3, h4⟩ := h
    refine ⟨v, rfl, .inr ⟨a, tp, xs, _, h1, h2, h3, h4, fun j hj => ?_, fun ss2 e => ?_⟩⟩
    · exfalso
      obtain ⟨z1, z2, _⟩ := List.findIdx?_eq_some_iff_getElem.mp hj
      simp at z2
    · have : ss2 = ss := by
        have := congrArg (List.map fun o : Option S3 => o.getD (0, 0, 0)) e
        rw [List.map_map, List.map_map] at this
        have i : ((fun o : Option S3 => o.getD (0, 0, 0)) ∘ some) = id := rfl
        rw [i, List.map_id, List.map_id] at this
        exact this.symm
      rw [this]
      exact hk ss rfl
def spLeast (K : PySem.W.Frag) (CS : Addr) : Sp := fun vs H Q E => ∃ (v : V) (r : Nat ⊕ List S3), vs = [v] ∧ ArgS K H v r ∧ (∀ i, r = .inl i → Bad E H CS "index" (.int (i : Nat))) ∧ ∀ ss, r = .inr ss → ∀ H', Same H H' → Q (.int (OM.need ss)) H'
def spWith (K : PySem.W.Frag) (CS CL : Addr) : Sp := fun vs H Q E => ∃ (v l : V) (k : Kd) (r : Nat ⊕ List S3), vs = [v, l] ∧ ArgS K H v r ∧ Any K H l k ∧ (∀ i, r = .inl i → Bad E H CS "index" (.int (i : Nat))) ∧ ∀ ss, r = .inr ss → (numV l = false → Bad E H CL "life" l) ∧ (∀ n, l = .int n → 0 ≤ n → ∀ H' D, Same H H' → H D = none → Row H' D (OM.short ss n) → Q (.ref D) H')
/-- a day within a stay, behind its begin -/
def dayIn (s : S3) (v : V) : Bool := match v with
  | .int d => decide (s.1 < d) && decide (d ≤ s.2.1)
  | _ => false
/-- the stay at i parted on day d -/
def moved (ss : List S3) (i : Nat) (s : S3) (d : Int) : List S3 := ss.take i ++ ((s.1, d - 1, s.2.2) :: (d, s.2.1, s.2.2) :: ss.drop (i + 1))
def spMoved (K : PySem.W.Frag) (CS CI CD : Addr) : Sp := fun vs H Q E => ∃ (v ix dy : V) (ki kd : Kd) (r : Nat ⊕ List S3), vs = [v, ix, dy] ∧ ArgS K H v r ∧ Any K H ix ki ∧ Any K H dy kd ∧ (∀ i, r = .inl i → Bad E H CS "index" (.int (i : Nat))) ∧
  ∀ ss, r = .inr ss → (ixV ss.length ix = false → Bad E H CI "index" ix) ∧ (∀ (i : Nat) s, ix = .int (i : Nat) → ss[i]? = some s → (dayIn s dy = false → Bad E H CD "day" dy) ∧ (∀ d, dy = .int d → s.1 < d → d ≤ s.2.1 → ∀ H' D, Same H H' → H D = none → Row H' D (moved ss i s d) → Q (.ref D) H'))
theorem cut_to (xs : List V) (i : Nat) (h : i ≤ xs.length) : cutV xs none (some (i : Int)) = xs.take i := by
  unfold cutV
  rw [HT.sIx_nat, HT.sIx_none]
  have : min xs.length i = i ∨ min i xs.length = i := by omega
  simp [Nat.min_eq_left h]
theorem cut_from (xs : List V) (i : Nat) (h : i ≤ xs.length) : cutV xs (some (i : Int)) none = xs.drop i := by
  unfold cutV
  rw [HT.sIx_nat, HT.sIx_none, Nat.min_eq_left h]
  exact List.take_of_length_le (by rw [List.length_drop] <;> exact Nat.le_refl _)
section
variable {P : Program} {w : World} {K : PySem.W.Frag} {mg : Str → Option Value} {base : Heap}
end
end OB
namespace OB
open PySem PySem.Spec PyProof.Rows L2 RZ
/-! ### == of a def with itself -/
theorem fn_slot_eq : Slot "function" (cmpInfo .Eq).2.1 "object.__eq__" :=
  .of (owner := "object") (n := "__eq__") (by rw [typeLookup_type, builtinLookup_eq_fast]; kernel_rfl) (by decide +kernel) (by decide +kernel) (by decide +kernel)
    (by first | exact .inl (by decide +kernel) | exact .inr (by decide +kernel)) (by rw [isSubtype_type]; kernel_rfl)
def rEqFn (K : PySem.W.Frag) : R2 := fun x y H Q => ∃ (f : Addr) (o : Obj), x = .ref f ∧ y = .ref f ∧ K.lookup f = some o ∧ o.cls = .type "function" ∧ Q (.bl true) H
theorem op_eqFn {X : Cx} (hu : X.A.units + 1 < cLine) : OpR X (compareOp .Eq) (rEqFn X.K) := by
  intro pins s σ H x y v u Q I rx ry h
  obtain ⟨f, o, rfl, rfl, lk, hc, q⟩ := h
  cases (show v = Value.ref f from rx)
  cases (show u = Value.ref f from ry)
  have isF : s.TypeIs (.ref f) "function" := ⟨o, I.kIn f o lk, hc⟩
  show wpAny _ _ (richCompare .Eq (.ref f) (.ref f)) _ _ _
  refine wpAny_richCompare_same_room (T := "function") isF isF fn_slot_eq ?_ (by omega)
  refine wpAny_call (codeAny_call_builtin fn_slot_eq.plain F.cmpEntry_eq (fn_slot_eq.check _ _ _ _ _ _ _ _ isF (F.cmpArgs_eq _ _) (objEq_entry_same ⟨(by intro z; cases z), V.bl true, H, I, rfl, q⟩)))
theorem pe_dead {X : Cx} {e : Expr} : PE X e (fun _ _ _ => False) := ⟨fun _ _ _ _ _ _ h => h.elim⟩
/-! ### the law's comparison of what is found with what is due -/
abbrev sSame : Stmt := top 30
def ItzA (tp : Bool) (K : PySem.W.Frag) (a b : Addr) : It := match tp with
  | true => ItzT K a b
  | false => Itz K a b
theorem lc_zipA {tp : Bool} {K : PySem.W.Frag} {a b : Addr} {xs ys : List V} {g : TG} {tt : TT} {te : TE} {vs : List Nat} {σ : L2.St} {H1 : Hp} {D : Addr} {Qd : Hp → Prop} {H0 : Hp} (fix : SqX tp K H0 a xs) (hl : xs.length = ys.length) (Pv : Nat → Hp → Prop) (h0 : Pv 0 (upd H1 D (.lst []))) (hq : ∀ i H, Pv i H → SqX tp K H a xs ∧ SqX tp K H b ys)
    (hs : ∀ (i : Nat) (x y : V) (T : Addr) (H : Hp), xs[i]? = some x → ys[i]? = some y → Pv i H → H T = none → g (.ref T) (wipe σ vs) (upd H T (.tup [x, y])) fun σ2 H2 => wipe σ2 vs = wipe σ vs ∧ tt σ2 H2 fun k H3 =>
      if k = true then te σ2 H3 fun v H4 => ∃ acc, H4 D = some (.lst acc) ∧ acc.length < sizeLine ∧ Pv (i + 1) (upd H4 D (.lst (acc ++ [v]))) else Pv (i + 1) H3) (hd : ∀ H, Pv xs.length H → Qd H) :
    ∃ W : Nat → Nat → Hp → Prop, (∃ m, W 0 m (upd H1 D (.lst []))) ∧ ∀ i m H, W i m H →
      ((ItzA tp K a b).stop i H ∧ Qd H) ∨ ((ItzA tp K a b).go i H ∧ ∃ Nx : Hp → Prop, (∀ H', Nx H' → ∃ m', m' < m ∧ W (i + 1) m' H') ∧ ∀ v H', (ItzA tp K a b).yld i H v H' → g v (wipe σ vs) H' fun σ2 H2 => wipe σ2 vs = wipe σ vs ∧ tt σ2 H2 fun k H3 =>
        if k = true then te σ2 H3 fun v H4 => ∃ acc, H4 D = some (.lst acc) ∧ acc.length < sizeLine ∧ Nx (upd H4 D (.lst (acc ++ [v]))) else Nx H3) := by
  refine ⟨fun i m H => m = xs.length - i ∧ i ≤ xs.length ∧ Pv i H, ⟨xs.length, rfl, Nat.zero_le _, h0⟩, ?_⟩
  rintro i m H ⟨rfl, hi, p⟩
  obtain ⟨qx, qy⟩ := hq i H p
  by_cases hlt : i < xs.length
  · have hly : i < ys.length := by omega
    have next : ∀ H', Pv (i + 1) H' → ∃ m', m' < xs.length - i ∧ (m' = xs.length - (i + 1) ∧ i + 1 ≤ xs.length ∧ Pv (i + 1) H') := fun H' p' => ⟨xs.length - (i + 1), by omega, rfl, hlt, p'⟩
    cases tp with
    | true =>
      refine .inr ⟨⟨xs, ys, xs[i], ys[i], qx, qy, List.getElem?_eq_getElem hlt, List.getElem?_eq_getElem hly⟩, Pv (i + 1), next, fun v H' y => ?_⟩
      obtain ⟨T, c, w, rfl, hT, rfl, hx, hy⟩ := y
      exact hs i c w T H (hx xs qx) (hy ys qy) p hT
    | false =>
      refine .inr ⟨⟨xs, ys, xs[i], ys[i], qx, qy, List.getElem?_eq_getElem hlt, List.getElem?_eq_getElem hly⟩, Pv (i + 1), next, fun v H' y => ?_⟩
      obtain ⟨T, c, w, rfl, hT, rfl, hx, hy⟩ := y
      exact hs i c w T H (hx xs qx) (hy ys qy) p hT
  · have e : i = xs.length := by omega
    subst e
    cases tp with
    | true => exact .inl ⟨⟨xs, ys, qx, qy, .inl (Nat.le_refl _)⟩, hd H p⟩
    | false => exact .inl ⟨⟨xs, ys, qx, qy, .inl (Nat.le_refl _)⟩, hd H p⟩
theorem zip_pick {tp : Bool} {K : PySem.W.Frag} {H : Hp} {a b : Addr} {xs ys : List V} {R : It → Hp → Prop} (hx : SqX tp K H a xs) (hy : SqX tp K H b ys) (z : R (ItzA tp K a b) H) : (SqL K H a xs ∧ SqL K H b ys ∧ R (Itz K a b) H) ∨ (SqT K H a xs ∧ SqT K H b ys ∧ R (ItzT K a b) H) := by
  cases tp with
  | true => exact .inr ⟨hx, hy, z⟩
  | false => exact .inl ⟨hx, hy, z⟩
/-- alike, its parts being alike by D -/
inductive SameW (K : PySem.W.Frag) (D : Hp → V → V → Prop) (H : Hp) : V → V → Prop where
  | non : SameW K D H .non .non
  | bl (b : Bool) : SameW K D H (.bl b) (.bl b)
  | int (i : Int) : SameW K D H (.int i) (.int i)
  | str {x : Str} (h : x.length ≤ 100) : SameW K D H (.str x) (.str x)
  | fn {f : Addr} {o : Obj} (e : K.lookup f = some o) (c : o.cls = .type "function") : SameW K D H (.ref f) (.ref f)
  | dct {a b : Addr} (ha : H a = some (.dK [])) (hb : H b = some (.dK [])) : SameW K D H (.ref a) (.ref b)
  | seq {tp : Bool} {a b : Addr} {xs ys : List V} (ha : H a = some (mkX tp xs)) (hb : H b = some (mkX tp ys)) (hl : xs.length < 10000000) (hd : Paired (D H) xs ys) : SameW K D H (.ref a) (.ref b)
def SameV (K : PySem.W.Frag) : Nat → Hp → V → V → Prop
  | 0 => fun _ _ _ => False
  | d + 1 => SameW K (SameV K d)
theorem SameW.same {K : PySem.W.Frag} {D : Hp → V → V → Prop} {H H' : Hp} {v w : V} (h : SameW K D H v w) (e : Same H H') (st : ∀ x y, D H x y → D H' x y) : SameW K D H' v w := by
  cases h with
  | non => exact .non
  | bl b => exact .bl b
  | int i => exact .int i
  | str q => exact .str q
  | fn q c => exact .fn q c
  | dct ha hb => exact .dct (e _ _ ha) (e _ _ hb)
  | seq ha hb hl hd => exact .seq (e _ _ ha) (e _ _ hb) hl (Paired.imp st hd)
theorem SameV.same {K : PySem.W.Frag} : ∀ (d : Nat) {H H' : Hp} {v w : V}, SameV K d H v w → Same H H' → SameV K d H' v w
  | 0, _, _, _, _, h, _ => h
  | d + 1, _, _, _, _, h, e => SameW.same h e fun _ _ q => SameV.same d q e
def spSame (D : Hp → V → V → Prop) : Sp := fun vs H Q _ => ∃ v w, vs = [v, w] ∧ D H v w ∧ ∀ H', Same H H' → Q (.bl true) H'
theorem Says6.bi {K : PySem.W.Frag} {H : Hp} {v : V} {k : Kd} {t : Value} (h : Says6 K H v k t) : PySem.W.kitAny K t [.type "bool", .type "int"] = some (k.isBl || (k.isInt || k.isBl)) := by
  refine kitAny_cons h.bool (fun e => ?_) (fun e => by rw [e] <;> rfl)
  have z : (k.isBl || (k.isInt || k.isBl)) = (k.isInt || k.isBl) := by simp [e]
  rw [z]
  exact kitAny_cons h.int (fun e2 => by rw [e2] <;> rfl) (fun e2 => e2)
theorem Says6.five {K : PySem.W.Frag} {H : Hp} {v : V} {k : Kd} {t : Value} (h : Says6 K H v k t) (hb : k.isBl = false) (hi : k.isInt = false) (hl : k.isLst = false) (ht : k.isTup = false) (hd : k.isDct = false) :
    PySem.W.kitAny K t [.type "bool", .type "int", .type "list", .type "tuple", .type "dict"] = some false := by
  refine kitAny_cons h.bool (fun _ => ?_) (fun e => by rw [hb] at e; cases e)
  refine kitAny_cons h.int (fun _ => ?_) (fun e => by rw [hb, hi] at e; cases e)
  refine kitAny_cons h.list (fun _ => ?_) (fun e => by rw [hl] at e; cases e)
  refine kitAny_cons h.tuple (fun _ => ?_) (fun e => by rw [ht] at e; cases e)
  refine kitAny_cons h.dict (fun _ => rfl) (fun e => by rw [hd] at e; cases e)
section
variable {P : Program} {w : World} {K : PySem.W.Frag} {mg : Str → Option Value} {base : Heap}
theorem scSame : FnScope ["found", "due", "one", "other", "key"] ["found", "due"] (defScope sSame) := ⟨rfl, rfl, rfl, by decide +kernel, rfl, by decide +kernel, by decide +kernel⟩
theorem ok_sameS {f : Addr} {fd : FuncData} {d : Nat} {D : Hp → V → V → Prop} (F : Fun K "_law_same" "_law_same" sSame f fd) (gF : mg "_law_same" = some (.ref f)) (T : TxtC mg) (TF : TxtF mg)
    (G : FnOk P w K mg base CX0 (d + 1) f fd ["found", "due"] (spSame D)) (bF : Binds K fd ["found", "due"] []) (dst : ∀ {H H' : Hp} {v w : V}, D H v w → Same H H' → D H' v w) : FnOk P w K mg base CX0 (d + 2) f fd ["found", "due"] (spSame (SameW K D)) := by
  refine F.ok scSame (fun vs H Q E h => ?_) (fun cdv A outer s H vs Q E hr h => ?_)
  · obtain ⟨v, w, rfl, _⟩ := h
    rfl
  · obtain ⟨v, u, rfl, hw, q⟩ := h
    have nd := scSame.nd
    have hu := hu_of hr
    refine ⟨_, pss_cons (ps_if (pt_val (pe_callB call_isAT (by rfl) T.isi bootIsi (pa_cons (pv 1) (pa_cons (pe_tup (pa_cons (pe_bltn (v := .ty "list") (u := .type "list") (by rfl) T.list bList rfl) (pa_cons (pe_bltn (v := .ty "tuple") (u := .type "tuple") (by rfl) T.tuple bTuple rfl) pa_nil))) pa_nil))))
        (pss_cons (ps_if (pt_cmpR op_ne (pe_callB call_isA (by rfl) T.isi bootIsi (pa_cons (pv 0) (pa_cons (pe_bltn (v := .ty "list") (u := .type "list") (by rfl) T.list bList rfl) pa_nil))) (pe_callB call_isA (by rfl) T.isi bootIsi (pa_cons (pv 1) (pa_cons (pe_bltn (v := .ty "list") (u := .type "list") (by rfl) T.list bList rfl) pa_nil))) (nomark _))
          (pss_one (ps_ret pe_bl)) pss_nil)
        (pss_cons (ps_if (PW.pt (pw_or (pt_cmpR op_ne (pe_callB call_isA (by rfl) T.isi bootIsi (pa_cons (pv 0) (pa_cons (pe_bltn (v := .ty "tuple") (u := .type "tuple") (by rfl) T.tuple bTuple rfl) pa_nil))) (pe_callB call_isA (by rfl) T.isi bootIsi (pa_cons (pv 1) (pa_cons (pe_bltn (v := .ty "tuple") (u := .type "tuple") (by rfl) T.tuple bTuple rfl) pa_nil))) (nomark _))
            (pw_or1 (pt_cmpR op_ne (pe_callB call_len_seq (by rfl) T.len PySem.boot_len (pa_cons (pv 0) pa_nil)) (pe_callB call_len_seq (by rfl) T.len PySem.boot_len (pa_cons (pv 1) pa_nil)) (nomark _)))))
          (pss_one (ps_ret pe_bl)) pss_nil)
        (pss_one (ps_ret (pe_callB (cr_all rfl) (by rfl) T.all (by decide +kernel) (pa_cons (pe_lc (own := [("one", 2), ("other", 3)]) (g := gTup K 2 (gCons (gName 2) (gCons (gName 3) gNil))) (tt := tYes) rfl nd (pi_zipA (by rfl) TF.zip (pa_cons (pv 0) (pa_cons (pv 1) pa_nil)))
            (blkOk_by (N := ["found", "due", "one", "other", "key"]) (sc := defScope sSame) (by decide +kernel))
            (fun _ _ _ _ _ => pg_tup rfl (pgs_cons (pg_name (i := 2) nd rfl (Or.inl rfl)) (pgs_cons (pg_name (i := 3) nd rfl (Or.inl rfl)) pgs_nil))) (fun _ _ _ _ _ => pts_nil)
            (fun _ _ _ _ _ => pe_call G hr (by rfl) gF F.kp bF .nil pass0 (pa_cons (pv 2) (pa_cons (pv 3) pa_nil)))) pa_nil)))))) pss_nil)
      (pss_cons (ps_if (pt_val (pe_callB call_isA (by rfl) T.isi bootIsi (pa_cons (pv 1) (pa_cons (pe_bltn (v := .ty "dict") (u := .type "dict") (by rfl) TF.dict bDict rfl) pa_nil))))
        (pss_cons (ps_if (PW.pt (pw_or (pt_not (pt_val (pe_callB call_isA (by rfl) T.isi bootIsi (pa_cons (pv 0) (pa_cons (pe_bltn (v := .ty "dict") (u := .type "dict") (by rfl) TF.dict bDict rfl) pa_nil)))))
            (pw_or1 (pt_cmpR (op_neD hr.units) (pe_callTy (call_list_dK rfl) (by rfl) T.list bList (pa_cons (pv 0) pa_nil)) (pe_callTy (call_list_dK rfl) (by rfl) T.list bList (pa_cons (pv 1) pa_nil)) (nomark _)))))
          (pss_one (ps_ret pe_bl)) pss_nil)
        (pss_one (ps_ret (pe_callB (cr_all rfl) (by rfl) T.all (by decide +kernel) (pa_cons (pe_lock (pe_lc (own := [("key", 4)]) (g := gName 4) (tt := tYes) (te := fun _ _ _ => False) rfl nd (pi_keys (pv 1))
            (blkOk_by (N := ["found", "due", "one", "other", "key"]) (sc := defScope sSame) (by decide +kernel))
            (fun _ _ _ _ _ => pg_name (i := 4) nd rfl (Or.inl rfl)) (fun _ _ _ _ _ => pts_nil) (fun _ _ _ _ _ => pe_dead))) pa_nil))))) pss_nil)
      (pss_cons (ps_if (pt_val (pe_callB call_isAT (by rfl) T.isi bootIsi (pa_cons (pv 1) (pa_cons (pe_tup (pa_cons (pe_bltn (v := .ty "bool") (u := .type "bool") (by rfl) T.bool bBool rfl) (pa_cons (pe_bltn (v := .ty "int") (u := .type "int") (by rfl) T.int bInt rfl) pa_nil))) pa_nil))))
        (pss_one (ps_ret (pe_and (pe_callB call_isA (by rfl) T.isi bootIsi (pa_cons (pv 0) (pa_cons (pe_bltn (v := .ty "int") (u := .type "int") (by rfl) T.int bInt rfl) pa_nil)))
          (pe_and (pe_cmpR op_eq (pe_callB call_isA (by rfl) T.isi bootIsi (pa_cons (pv 0) (pa_cons (pe_bltn (v := .ty "bool") (u := .type "bool") (by rfl) T.bool bBool rfl) pa_nil))) (pe_callB call_isA (by rfl) T.isi bootIsi (pa_cons (pv 1) (pa_cons (pe_bltn (v := .ty "bool") (u := .type "bool") (by rfl) T.bool bBool rfl) pa_nil))) (nomark _))
          (pe_one (pe_cmpR op_eq (pv 0) (pv 1) (nomark _))))))) pss_nil)
      (pss_one (ps_ret (pe_and (pe_not (pe_callB call_isAT (by rfl) T.isi bootIsi (pa_cons (pv 0) (pa_cons (pe_tup (pa_cons (pe_bltn (v := .ty "bool") (u := .type "bool") (by rfl) T.bool bBool rfl) (pa_cons (pe_bltn (v := .ty "int") (u := .type "int") (by rfl) T.int bInt rfl) (pa_cons (pe_bltn (v := .ty "list") (u := .type "list") (by rfl) T.list bList rfl) (pa_cons (pe_bltn (v := .ty "tuple") (u := .type "tuple") (by rfl) T.tuple bTuple rfl) (pa_cons (pe_bltn (v := .ty "dict") (u := .type "dict") (by rfl) TF.dict bDict rfl) pa_nil)))))) pa_nil))))
        (pe_one (pe_cmpR (op_eq.or (op_eqFn hu)) (pv 0) (pv 1) (nomark _)))))))), ?_⟩
    refine ⟨_, rfl, by show 2 ≤ sizeLine; decide, fun tt ntt => ?_⟩
    have e1 : Same H (upd H tt (.tup [.ty "list", .ty "tuple"])) := Same.new ntt
    have g1 : (upd H tt (.tup [.ty "list", .ty "tuple"])) tt = some (.tup [.ty "list", .ty "tuple"]) := upd_same
    generalize upd H tt (.tup [.ty "list", .ty "tuple"]) = H1 at e1 g1 ⊢
    have key : (∃ k, Any K H v k ∧ Any K H u k ∧ k.isLst = false ∧ k.isTup = false ∧ k.isDct = false ∧ k.isBl = false ∧ k.isInt = false ∧ ∀ G, Same H G → rEq v u G Q ∨ rEqFn K v u G Q) ∨ (∃ k, Any K H v k ∧ u = v ∧ k.isLst = false ∧ k.isTup = false ∧ k.isDct = false ∧ (k.isInt || k.isBl) = true ∧ scal v v = true) ∨
        (∃ a b, v = .ref a ∧ u = .ref b ∧ H a = some (.dK []) ∧ H b = some (.dK [])) ∨
        (∃ (tp : Bool) (a b : Addr) (xs ys : List V), v = .ref a ∧ u = .ref b ∧ H a = some (mkX tp xs) ∧ H b = some (mkX tp ys) ∧ xs.length < 10000000 ∧ Paired (D H) xs ys) := by
      cases hw with
      | non => exact .inl ⟨.non, .non, .non, rfl, rfl, rfl, rfl, rfl, fun G e => .inl ⟨rfl, by rw [decide_eq_true rfl]; exact q G e⟩⟩
      | str hx => exact .inl ⟨.str, .str hx, .str hx, rfl, rfl, rfl, rfl, rfl, fun G e => .inl ⟨rfl, by rw [decide_eq_true rfl]; exact q G e⟩⟩
      | @fn f o e c => exact .inl ⟨.fn, .fn e c, .fn e c, rfl, rfl, rfl, rfl, rfl, fun G z => .inr ⟨f, o, rfl, rfl, e, c, q G z⟩⟩
      | bl b => exact .inr (.inl ⟨.bl, .bl b, rfl, rfl, rfl, rfl, rfl, rfl⟩)
      | int i => exact .inr (.inl ⟨.int, .int i, rfl, rfl, rfl, rfl, rfl, rfl⟩)
      | dct ha hb => exact .inr (.inr (.inl ⟨_, _, rfl, rfl, ha, hb⟩))
      | seq ha hb hl hd => exact .inr (.inr (.inr ⟨_, _, _, _, _, rfl, rfl, ha, hb, hl, hd⟩))
    rcases key with ⟨k, av, au, k1, k2, k3, k4, k5, fin⟩ | ⟨k, av, rfl, k1, k2, k3, k4, sc⟩ | ⟨a, b, rfl, rfl, ha, hb⟩ | ⟨tp, a, b, xs, ys, rfl, rfl, ha, hb, hl, hd⟩
    · obtain ⟨tu, U⟩ := (au.same e1).says
      refine ⟨u, tt, _, tu, _, _, rfl, g1, .cons (.ty _) (.cons (.ty _) .nil), U.ty, U.seq, _, rfl, ?_⟩
      rw [k1, k2]
      refine iteF ⟨_, rfl, u, .ty "dict", tu, .type "dict", _, rfl, .ty _, U.ty, U.dict, _, rfl, ?_⟩
      rw [k3]
      refine iteF ⟨_, rfl, by show 2 ≤ sizeLine; decide, fun t3 n3 => ?_⟩
      have e2 : Same H (upd H1 t3 (.tup [.ty "bool", .ty "int"])) := e1.trans (Same.new n3)
      have g2 : (upd H1 t3 (.tup [.ty "bool", .ty "int"])) t3 = some (.tup [.ty "bool", .ty "int"]) := upd_same
      obtain ⟨tw, W2⟩ := (au.same e2).says
      refine ⟨u, t3, _, tw, _, _, rfl, g2, .cons (.ty _) (.cons (.ty _) .nil), W2.ty, W2.bi, _, rfl, ?_⟩
      rw [k4, k5]
      refine iteF ⟨_, rfl, by show 5 ≤ sizeLine; decide, fun t5 n5 => ?_⟩
      have e3 := e2.trans (Same.new (u := .tup [.ty "bool", .ty "int", .ty "list", .ty "tuple", .ty "dict"]) n5)
      obtain ⟨tx, W3⟩ := (av.same e3).says
      refine ⟨v, t5, _, tx, _, _, rfl, upd_same, .cons (.ty _) (.cons (.ty _) (.cons (.ty _) (.cons (.ty _) (.cons (.ty _) .nil)))), W3.ty, W3.five k4 k5 k1 k2 k3, _, rfl, _, rfl, ?_⟩
      exact iteT ⟨_, rfl, _, rfl, fin _ e3⟩
    · obtain ⟨tu, U⟩ := (av.same e1).says
      refine ⟨_, tt, _, tu, _, _, rfl, g1, .cons (.ty _) (.cons (.ty _) .nil), U.ty, U.seq, _, rfl, ?_⟩
      rw [k1, k2]
      refine iteF ⟨_, rfl, _, .ty "dict", tu, .type "dict", _, rfl, .ty _, U.ty, U.dict, _, rfl, ?_⟩
      rw [k3]
      refine iteF ⟨_, rfl, by show 2 ≤ sizeLine; decide, fun t3 n3 => ?_⟩
      have e2 : Same H (upd H1 t3 (.tup [.ty "bool", .ty "int"])) := e1.trans (Same.new n3)
      have g2 : (upd H1 t3 (.tup [.ty "bool", .ty "int"])) t3 = some (.tup [.ty "bool", .ty "int"]) := upd_same
      obtain ⟨tw, W2⟩ := (av.same e2).says
      refine ⟨_, t3, _, tw, _, _, rfl, g2, .cons (.ty _) (.cons (.ty _) .nil), W2.ty, W2.bi, _, rfl, ?_⟩
      have kk : (k.isBl || (k.isInt || k.isBl)) = true := by rw [k4, Bool.or_true]
      rw [kk]
      refine iteT ⟨_, rfl, _, .ty "int", tw, .type "int", _, rfl, .ty _, W2.ty, W2.int, _, rfl, ?_⟩
      rw [k4]
      refine iteT ⟨_, rfl, _, .ty "bool", tw, .type "bool", _, rfl, .ty _, W2.ty, W2.bool, _, rfl, _, .ty "bool", tw, .type "bool", _, rfl, .ty _, W2.ty, W2.bool, rfl, ?_⟩
      rw [decide_eq_true rfl]
      refine ⟨_, rfl, iteT ⟨_, rfl, _, rfl, sc, ?_⟩⟩
      rw [decide_eq_true rfl]
      exact q _ e2
    · have au : Any K H (.ref b) .dct := .dct hb
      have av : Any K H (.ref a) .dct := .dct ha
      obtain ⟨tu, U⟩ := (au.same e1).says
      obtain ⟨tv, W⟩ := (av.same e1).says
      refine ⟨_, tt, _, tu, _, _, rfl, g1, .cons (.ty _) (.cons (.ty _) .nil), U.ty, U.seq, _, rfl, ?_⟩
      refine iteF ⟨_, rfl, _, .ty "dict", tu, .type "dict", _, rfl, .ty _, U.ty, U.dict, _, rfl, ?_⟩
      refine iteT ⟨_, rfl, _, .ty "dict", tv, .type "dict", _, rfl, .ty _, W.ty, W.dict, _, rfl, ?_⟩
      refine iteF ⟨_, rfl, a, [], rfl, e1 _ _ ha, fun l1 n1 => ⟨_, rfl, b, [], rfl, Same.new n1 _ _ (e1 _ _ hb), fun l2 n2 => ?_⟩⟩
      have e2 := (e1.trans (Same.new (u := .lst []) n1)).trans (Same.new (u := .lst []) n2)
      have gl1 : (upd (upd H1 l1 (.lst [])) l2 (.lst [])) l1 = some (.lst []) := Same.new n2 _ _ upd_same
      have gl2 : (upd (upd H1 l1 (.lst [])) l2 (.lst [])) l2 = some (.lst []) := upd_same
      show rNeD _ _ _ (upd (upd H1 l1 (.lst [])) l2 (.lst [])) _
      generalize upd (upd H1 l1 (.lst [])) l2 (.lst []) = J at e2 gl1 gl2 ⊢
      refine ⟨.list [], .list [], .lst (SqL.of gl1) .nil, .lst (SqL.of gl2) .nil, rfl, rfl, _, rfl, ?_⟩
      have hb2 := e2 _ _ hb
      have z : PyData.eqv (.list []) (.list []) = true := by decide +kernel
      rw [z]
      refine iteF ⟨b, .dK [], hb2, trivial, fun od => ⟨_, rfl, b, od, rfl, .inl ⟨[], upd_same, ?_⟩⟩⟩
      intro D2 nD
      refine lc_it (te := fun _ _ _ => False) (walk_keys (kvs := ([] : List (Key × V)))) (fun i G => i = 0 → ButS D2 (upd J b (.frz od (.dK []))) G ∧ G D2 = some (.lst [])) (fun _ => ⟨ButS.put, upd_same⟩) (fun i G hi z => ?_) (fun i x G G' hi _ _ => absurd hi (Nat.not_lt_zero i)) (fun G z => ?_)
      · obtain ⟨z1, _⟩ := z (Nat.le_zero.mp hi)
        refine z1 _ _ (ne_of_none (o := .frz od (.dK [])) upd_same nD) upd_same
      · obtain ⟨z1, z2⟩ := z rfl
        have bD : b ≠ D2 := ne_of_none (o := .frz od (.dK [])) upd_same nD
        refine ⟨z1 _ _ bD upd_same, D2, [], rfl, SqL.of (by rw [upd_ne bD.symm]; exact z2), q _ fun c o e => ?_⟩
        have ec := e2 _ _ e
        by_cases hcb : c = b
        · subst hcb
          rw [upd_same, ← ec, hb2]
        · rw [upd_ne hcb]
          refine z1 c o (fun y => ?_) (by rw [upd_ne hcb]; exact ec)
          rw [y] at ec
          have : (upd J b (.frz od (.dK []))) D2 = some o := by rw [upd_ne bD.symm]; exact ec
          rw [nD] at this
          cases this
    · have au : Any K H (.ref b) (if tp = true then .tup else .lst) := by
        cases tp with
        | true => exact .tup hb
        | false => exact .lst hb
      have av : Any K H (.ref a) (if tp = true then .tup else .lst) := by
        cases tp with
        | true => exact .tup ha
        | false => exact .lst ha
      obtain ⟨tu, U⟩ := (au.same e1).says
      obtain ⟨tv, W⟩ := (av.same e1).says
      have k1 : ((if tp = true then Kd.tup else Kd.lst).isLst || (if tp = true then Kd.tup else Kd.lst).isTup) = true := by cases tp <;> rfl
      refine ⟨_, tt, _, tu, _, _, rfl, g1, .cons (.ty _) (.cons (.ty _) .nil), U.ty, U.seq, _, rfl, ?_⟩
      rw [k1]
      refine iteT ⟨_, rfl, _, .ty "list", tv, .type "list", _, rfl, .ty _, W.ty, W.list, _, rfl, _, .ty "list", tu, .type "list", _, rfl, .ty _, U.ty, U.list, rfl, _, rfl, ?_⟩
      rw [decide_eq_true rfl]
      refine iteF ⟨_, rfl, _, .ty "tuple", tv, .type "tuple", _, rfl, .ty _, W.ty, W.tuple, _, rfl, _, .ty "tuple", tu, .type "tuple", _, rfl, .ty _, U.ty, U.tuple, rfl, _, rfl, ?_⟩
      rw [decide_eq_true rfl]
      have hxa : SqX tp K H1 a xs := SqX.at (e1 _ _ ha)
      have hxb : SqX tp K H1 b ys := SqX.at (e1 _ _ hb)
      have hlen := hd.length
      refine iteF ⟨_, rfl, a, xs, rfl, hxa.or, _, rfl, b, ys, rfl, hxb.or, rfl, _, rfl, ?_⟩
      rw [hlen, decide_eq_true rfl]
      refine iteF ⟨_, rfl, _, rfl, a, b, xs, ys, rfl, ?_⟩
      cases tp
      all_goals first | refine .inl ⟨hxa, hxb, ?_⟩ | refine .inr ⟨hxa, hxb, ?_⟩
      all_goals
        intro D2 nD
        have nD0 : H D2 = none := e1.free nD
        refine lc_zipA hxa hlen (fun i G => (∀ c o, c ≠ D2 → H1 c = some o → G c = some o) ∧ G D2 = some (.lst ((xs.take i).map fun _ => V.bl true))) ⟨fun c o nb e => by rw [upd_ne nb]; exact e, by rw [upd_same]; rfl⟩ (fun i G q => ?_) (fun i x y TT G hx hy ⟨k1, k2⟩ nT => ?_) (fun G ⟨k1, k2⟩ => ?_)
        · have eG : Same H G := fun c o e => q.1 c o (ne_of_none e nD0) (e1 _ _ e)
          exact ⟨SqX.at (eG _ _ ha), SqX.at (eG _ _ hb)⟩
        · refine ⟨TT, _, rfl, SqT.of upd_same, rfl, x, _, rfl, y, _, rfl, rfl, rfl, ?_⟩
          dsimp only [tYes]
          rw [if_pos rfl]
          obtain ⟨y2, hy2, dd⟩ := L2.paired_get hd hx
          rw [hy] at hy2
          cases hy2
          have eG : Same H (upd G TT (.tup [x, y])) := fun c o e => by
            have z1 := k1 c o (ne_of_none e nD0) (e1 _ _ e)
            rw [upd_ne (ne_of_none z1 nT)]
            exact z1
          refine ⟨_, rfl, _, rfl, x, y, rfl, dst dd eG, fun G2 e2 => ?_⟩
          refine ⟨_, e2 _ _ (Same.new nT _ _ k2), ?_, fun c o nb e => ?_, ?_⟩
          · rw [List.length_map, List.length_take, sizeLine_eq]
            omega
          · rw [upd_ne nb]
            exact e2 _ _ (Same.new nT _ _ (k1 c o nb e))
          · rw [upd_same, List.take_add_one, hx, List.map_append]
            rfl
        · rw [List.take_length] at k2
          have e2 : Same H G := fun c o e => k1 c o (ne_of_none e nD0) (e1 _ _ e)
          refine ⟨D2, xs.map fun _ => true, rfl, SqL.of (by rw [k2, List.map_map]; rfl), ?_⟩
          have all : (xs.map fun _ => true).all id = true := by
            rw [List.all_map]
            exact List.all_eq_true.mpr fun _ _ => rfl
          rw [all]
          exact q G e2
/-- every depth -/
theorem ok_same {f : Addr} {fd : FuncData} (F : Fun K "_law_same" "_law_same" sSame f fd) (gF : mg "_law_same" = some (.ref f)) (T : TxtC mg) (TF : TxtF mg) (bF : Binds K fd ["found", "due"] []) : ∀ d, FnOk P w K mg base CX0 (d + 1) f fd ["found", "due"] (spSame (SameV K d))
  | 0 => F.ok scSame (fun vs H Q E h => by
      obtain ⟨_, _, _, z, _⟩ := h
      exact z.elim) (fun cdv A outer s H vs Q E hr h => by
      obtain ⟨_, _, _, z, _⟩ := h
      exact z.elim)
  | d + 1 => ok_sameS F gF T TF (ok_same F gF T TF bF d) bF fun h e => SameV.same d h e
end
end OB
namespace OB
open PySem PySem.Spec PyProof.Rows L2
abbrev sAsL : Stmt := top 31
abbrev sStays : Stmt := top 32
abbrev sOdd : Stmt := top 33
/-! ### lists for tuples, here and there -/
def spAs (c : Nat) {β : Type} (J : Hp → V → β → Prop) (R : Addr → Hp → V → β → Prop) : Sp := fun vs H Q _ => ∃ (p a : Addr) (tq : Bool) (xs : List V) (ys : List β) (n : Nat), vs = [.ref p, .ref a] ∧ Src n H p ∧ n + c * xs.length + 1 < 1000000000 ∧ H a = some (mkX tq xs) ∧ a ≠ p ∧ Paired (J H) xs ys ∧ xs.length < 1000 ∧
  ∀ H' t tr us, ButS p H H' → Src (n + c * xs.length + 1) H' p → H t = none → t ≠ p → H' t = some (mkX tr us) → Paired (R p H') us ys → Q (.ref t) H'
def spAs0 : Sp := fun vs H Q _ => ∃ (p : Addr) (i : Int), vs = [.ref p, .int i] ∧ ∀ H', Same H H' → Q (.int i) H'
section
variable {P : Program} {w : World} {K : PySem.W.Frag} {mg : Str → Option Value} {base : Heap}
theorem pss_dead {X : Cx} {st : List Stmt} : PSs X st (fun _ _ _ => False) := ⟨fun _ _ _ _ _ _ h => h.elim⟩
theorem scAsL : FnScope ["stream", "thing", "found", "part"] ["stream", "thing"] (defScope sAsL) := ⟨rfl, rfl, rfl, by decide +kernel, rfl, by decide +kernel, by decide +kernel⟩
theorem ok_as0 {f : Addr} {fd : FuncData} (F : Fun K "_law_as_lists" "_law_as_lists" sAsL f fd) (T : TxtC mg) : FnOk P w K mg base CX0 1 f fd ["stream", "thing"] spAs0 := by
  refine F.ok scAsL (fun vs H Q E h => ?_) (fun cdv A outer s H vs Q E hr h => ?_)
  · obtain ⟨p, i, rfl, _⟩ := h
    rfl
  · obtain ⟨p, i, rfl, q⟩ := h
    refine ⟨_, pss_cons (ps_if (pt_val (pe_callB call_isAT (by rfl) T.isi bootIsi (pa_cons (pv 1) (pa_cons (pe_tup (pa_cons (pe_bltn (v := .ty "list") (u := .type "list") (by rfl) T.list bList rfl) (pa_cons (pe_bltn (v := .ty "tuple") (u := .type "tuple") (by rfl) T.tuple bTuple rfl) pa_nil))) pa_nil)))) pss_dead pss_nil)
      (pss_one (ps_ret (pv 1))), ?_⟩
    refine ⟨_, rfl, by show 2 ≤ sizeLine; decide, fun tt ntt => ?_⟩
    have au : Any K (upd H tt (.tup [.ty "list", .ty "tuple"])) (.int i) .int := .int i
    obtain ⟨tu, U⟩ := au.says
    exact ⟨_, tt, _, tu, _, _, rfl, upd_same, .cons (.ty _) (.cons (.ty _) .nil), U.ty, U.seq, _, rfl, iteF ⟨_, rfl, q _ (Same.new ntt)⟩⟩
theorem ok_asS {f fD : Addr} {fd fdD : FuncData} {d c : Nat} {sp0 : Sp} {β : Type} {J : Hp → V → β → Prop} {R : Addr → Hp → V → β → Prop} (F : Fun K "_law_as_lists" "_law_as_lists" sAsL f fd) (gF : mg "_law_as_lists" = some (.ref f)) (bF : Binds K fd ["stream", "thing"] []) (T : TxtC mg)
    (GD : FnOk P w K mg base CX0 1 fD fdD ["stream", "many"] spDraw) (gD : mg "_law_draw" = some (.ref fD)) (kD : PySem.W.keepIn K (.ref fD) = true) (bD : Binds K fdD ["stream", "many"] [])
    (G : FnOk P w K mg base CX0 (d + 1) f fd ["stream", "thing"] sp0)
    (hin : ∀ (p : Addr) (x : V) (y : β) (H : Hp) (n : Nat) (Q : VK), J H x y → Src n H p → n + c < 1000000000 → (∀ H' v, ButS p H H' → Src (n + c) H' p → (∀ D, H D ≠ none → v ≠ .ref D) → R p H' v y → Q v H') → sp0 [.ref p, x] H Q E0)
    (jst : ∀ (p : Addr) (H H' : Hp) (n : Nat) (x : V) (y : β), Src n H p → ButS p H H' → J H x y → J H' x y) (rst : ∀ (p : Addr) (H H' : Hp) (v : V) (y : β), ButS p H H' → R p H v y → R p H' v y) (rput : ∀ (p D : Addr) (H : Hp) (o : HO) (v : V) (y : β), v ≠ .ref D → R p H v y → R p (upd H D o) v y) :
    FnOk P w K mg base CX0 (d + 2) f fd ["stream", "thing"] (spAs c J R) := by
  refine F.ok scAsL (fun vs H Q E h => ?_) (fun cdv A outer s H vs Q E hr h => ?_)
  · obtain ⟨p, a, tq, xs, ys, n, rfl, _⟩ := h
    rfl
  · obtain ⟨p, a, tq, xs, ys, n, rfl, S, hn, ha, ap, pj, hl, q⟩ := h
    have nd := scAsL.nd
    have hr1 := hr.mono (Nat.succ_le_succ (Nat.zero_le d))
    refine ⟨_, pss_cons (ps_if (pt_val (pe_callB call_isAT (by rfl) T.isi bootIsi (pa_cons (pv 1) (pa_cons (pe_tup (pa_cons (pe_bltn (v := .ty "list") (u := .type "list") (by rfl) T.list bList rfl) (pa_cons (pe_bltn (v := .ty "tuple") (u := .type "tuple") (by rfl) T.tuple bTuple rfl) pa_nil))) pa_nil))))
        (pss_cons (ps_setLc (i := 2) (own := [("part", 3)]) (g := gName 3) (tt := tYes) rfl nd rfl rfl (sw_true rfl rfl rfl (by decide +kernel)) (pi_X (pv 1)) (blkOk_by (N := ["stream", "thing", "found", "part"]) (sc := defScope sAsL) (by decide +kernel))
          (fun _ _ _ _ _ => pg_name (i := 3) nd rfl (Or.inl rfl)) (fun _ _ _ _ _ => pts_nil) (fun _ _ _ _ _ => pe_call G hr (by rfl) gF F.kp bF .nil pass0 (pa_cons (pv 0) (pa_cons (pv 3) pa_nil))))
        (pss_one (ps_ret (pe_ifExp (pt_cmpR op_eq (pe_call GD hr1 (by rfl) gD kD bD .nil pass0 (pa_cons (pv 0) (pa_cons pe_int pa_nil))) pe_int (nomark _)) (pv 2) (pe_callTy call_tuple_of (by rfl) T.tuple (by decide +kernel) (pa_cons (pv 2) pa_nil)))))) pss_nil)
      (pss_one (ps_ret (pv 1))), ?_⟩
    refine ⟨_, rfl, by show 2 ≤ sizeLine; decide, fun tt ntt => ?_⟩
    have e1 : Same H (upd H tt (.tup [.ty "list", .ty "tuple"])) := Same.new ntt
    obtain ⟨k, ax, kk⟩ : ∃ k, Any K (upd H tt (.tup [.ty "list", .ty "tuple"])) (.ref a) k ∧ (k.isLst || k.isTup) = true := by
      cases tq with
      | true => exact ⟨.tup, .tup (e1 _ _ ha), rfl⟩
      | false => exact ⟨.lst, .lst (e1 _ _ ha), rfl⟩
    obtain ⟨tu, U⟩ := ax.says
    refine ⟨_, tt, _, tu, _, _, rfl, upd_same, .cons (.ty _) (.cons (.ty _) .nil), U.ty, U.seq, _, rfl, ?_⟩
    rw [kk]
    refine iteT ⟨_, rfl, tq, a, xs, rfl, SqX.at (e1 _ _ ha), fun D nD => ?_⟩
    have S1 : Src n (upd H tt (.tup [.ty "list", .ty "tuple"])) p := S.same e1
    have ha1 := e1 _ _ ha
    generalize upd H tt (.tup [.ty "list", .ty "tuple"]) = H1 at e1 nD S1 ha1
    have nD0 : H D = none := e1.free nD
    have Dp : D ≠ p := S1.ne nD
    have aD : a ≠ D := ne_of_none ha1 nD
    have ll := pj.length
    have bp : ∀ {G : Hp}, (∀ b o, b ≠ D → b ≠ p → H1 b = some o → G b = some o) → ButS p H G := fun k b o nb e => k b o (ne_of_none e nD0) nb (e1 _ _ e)
    refine lc_X (xs := xs) (fun i J => (∀ b o, b ≠ D → b ≠ p → H1 b = some o → J b = some o) ∧ Src (n + c * i) J p ∧ ∃ us, J D = some (.lst us) ∧ us.length = i ∧ Paired (fun v y => R p J v y ∧ v ≠ .ref D) us (ys.take i))
      ⟨fun b o nb _ e => by rw [upd_ne nb]; exact e, S1.but nD, [], upd_same, rfl, by rw [List.take_zero]; exact .nil⟩ (fun i J z => SqX.at (z.1 _ _ aD ap ha1)) (fun i x J hi z => ?_) (fun J z => ?_)
    · obtain ⟨k1, SJ, us, gD, lu, pu⟩ := z
      refine ⟨rfl, ?_⟩
      dsimp only [tYes]
      rw [if_pos rfl]
      have hlt := (List.getElem?_eq_some_iff.mp hi).1
      obtain ⟨y, hy, jy⟩ := Paired.at pj hi
      have hci : c * i + c ≤ c * xs.length := by
        rw [← Nat.mul_succ]
        exact Nat.mul_le_mul_left c hlt
      refine ⟨_, rfl, _, rfl, hin p x y J (n + c * i) _ (jst p H J n x y S (bp k1) jy) SJ (by omega) fun J2 v B2 S2 nv rv => ?_⟩
      have gD2 := B2 _ _ Dp gD
      have vD : v ≠ .ref D := nv D (by rw [gD]; simp)
      refine ⟨us, gD2, by rw [sizeLine_eq]; omega, fun b o nb np e => by rw [upd_ne nb]; exact B2 _ _ np (k1 b o nb np e), ?_, us ++ [v], upd_same, by rw [List.length_append, lu] <;> rfl, ?_⟩
      · have := (S2.put Dp (u := .lst (us ++ [v])))
        rw [Nat.mul_succ, ← Nat.add_assoc]
        exact this
      · rw [List.take_add_one, hy]
        exact Paired.snoc (Paired.imp (fun v' y' z => ⟨rput p D _ _ _ _ z.2 (rst p J J2 v' y' B2 z.1), z.2⟩) pu) ⟨rput p D _ _ _ _ vD rv, vD⟩
    · obtain ⟨k1, SJ, us, gD, lu, pu⟩ := z
      rw [ll, List.take_length] at pu
      have pu := Paired.imp (fun _ _ z => z.1) pu
      refine ⟨_, rfl, p, 2, _, rfl, SJ, by omega, by decide, by decide, fun J3 m B3 S3 m0 m1 => ?_⟩
      have B4 := (bp k1).trans B3
      have g3 : J3 D = some (.lst us) := B3 _ _ Dp gD
      have pu3 : Paired (R p J3) us ys := Paired.imp (fun v y z => rst p J J3 v y B3 z) pu
      refine ⟨rfl, _, rfl, ?_⟩
      refine ite2 (fun _ => ⟨_, rfl, q J3 D false us B4 S3 nD0 Dp g3 pu3⟩) (fun _ => ?_)
      refine ⟨_, rfl, D, us, rfl, .inl ⟨SqL.of g3, fun E' nE => ?_⟩⟩
      exact q _ E' true us (B4.trans (ButS.same (Same.new nE))) (S3.but nE) (S3.free B4 nE) (S3.ne nE) upd_same (Paired.imp (fun v y z => rst p _ _ v y (ButS.same (Same.new nE)) z) pu3)
/-! ### stays, and lists and tuples of them -/
/-- a stay as a list or a tuple, not the stream -/
def LStP (p : Addr) (H : Hp) (v : V) (s : S3) : Prop := ∃ (tp : Bool) (t : Addr), v = .ref t ∧ t ≠ p ∧ H t = some (mkX tp [.int s.1, .int s.2.1, .int s.2.2])
def LRowP (p : Addr) (H : Hp) (a : Addr) (ss : List S3) : Prop := a ≠ p ∧ ∃ tp vs, H a = some (mkX tp vs) ∧ Paired (LStP p H) vs ss
theorem LStP.but {p : Addr} {H H' : Hp} {v : V} {s : S3} (h : LStP p H v s) (b : ButS p H H') : LStP p H' v s := by
  obtain ⟨tp, t, e, n, h⟩ := h
  exact ⟨tp, t, e, n, b _ _ n h⟩
theorem LRowP.but {p : Addr} {H H' : Hp} {a : Addr} {ss : List S3} (h : LRowP p H a ss) (b : ButS p H H') : LRowP p H' a ss := by
  obtain ⟨n, tp, vs, h1, h2⟩ := h
  exact ⟨n, tp, vs, b _ _ n h1, Paired.imp (fun _ _ z => LStP.but z b) h2⟩
theorem LRowP.l {p : Addr} {H : Hp} {a : Addr} {ss : List S3} (h : LRowP p H a ss) : LRow H a ss := by
  obtain ⟨n, tp, vs, h1, h2⟩ := h
  exact ⟨tp, vs, h1, Paired.imp (fun v s ⟨tp, t, e, _, h⟩ => ⟨tp, t, e, h⟩) h2⟩
theorem St.but {n : Nat} {p : Addr} {H H' : Hp} {v : V} {s : S3} (h : St H v s) (S : Src n H p) (b : ButS p H H') : St H' v s := by
  obtain ⟨t, e, h⟩ := h
  refine ⟨t, e, b _ _ (fun z => ?_) h⟩
  obtain ⟨d, x, c, hp, _⟩ := S
  rw [z, hp] at h
  cases h
theorem Row.but {n : Nat} {p : Addr} {H H' : Hp} {a : Addr} {ss : List S3} (h : Row H a ss) (S : Src n H p) (np : a ≠ p) (b : ButS p H H') : Row H' a ss := by
  obtain ⟨vs, h1, h2⟩ := h
  exact ⟨vs, b _ _ np h1, Paired.imp (fun _ _ z => St.but z S b) h2⟩
/-- a stay's tuple as a thing to be gone through -/
def spAs1 : Sp := spAs 0 (fun _ x (i : Int) => x = .int i) (fun _ _ v (i : Int) => v = .int i)
def spAs2 : Sp := spAs 1 St LStP
theorem ok_asL {f fD : Addr} {fd fdD : FuncData} (F : Fun K "_law_as_lists" "_law_as_lists" sAsL f fd) (gF : mg "_law_as_lists" = some (.ref f)) (bF : Binds K fd ["stream", "thing"] []) (T : TxtC mg)
    (GD : FnOk P w K mg base CX0 1 fD fdD ["stream", "many"] spDraw) (gD : mg "_law_draw" = some (.ref fD)) (kD : PySem.W.keepIn K (.ref fD) = true) (bD : Binds K fdD ["stream", "many"] []) : FnOk P w K mg base CX0 3 f fd ["stream", "thing"] spAs2 := by
  have G1 : FnOk P w K mg base CX0 2 f fd ["stream", "thing"] spAs1 := ok_asS F gF bF T GD gD kD bD (ok_as0 F T) (fun p x y H n Q j S _ q => by
    subst j
    exact ⟨p, y, rfl, fun H' e => q H' _ (ButS.same e) (S.same e) (fun D _ => by intro z; cases z) rfl⟩) (fun _ _ _ _ _ _ _ _ j => j) (fun _ _ _ _ _ _ r => r) (fun _ _ _ _ _ _ _ r => r)
  refine ok_asS F gF bF T GD gD kD bD G1 (fun p x s H n Q j S hn q => ?_) (fun p H H' n x s S b j => j.but S b) (fun p H H' v s b r => r.but b) (fun p D H o v s ne r => ?_)
  · obtain ⟨t, rfl, ht⟩ := j
    have tp : t ≠ p := fun z => by
      obtain ⟨d, x, c, hp, _⟩ := S
      rw [z, hp] at ht
      cases ht
    refine ⟨p, t, true, _, [s.1, s.2.1, s.2.2], n, rfl, S, by omega, ht, tp, .cons rfl (.cons rfl (.cons rfl .nil)), by show 3 < 1000; decide, fun H' r tr us B S' nr rp hr pu => ?_⟩
    have eu : us = [.int s.1, .int s.2.1, .int s.2.2] := by
      cases pu with
      | cons a r =>
        cases r with
        | cons b r =>
          cases r with
          | cons c r =>
            cases r
            rw [a, b, c]
    refine q H' (.ref r) B (S'.mono (by omega)) (fun D hD z => ?_) ⟨tr, r, rfl, rp, by rw [hr, eu]⟩
    cases z
    exact hD nr
  · obtain ⟨tp, t, rfl, n, h⟩ := r
    refine ⟨tp, t, rfl, n, ?_⟩
    rw [upd_ne (fun z => ne (by rw [z]))]
    exact h
end
end OB
namespace OB
open PySem PySem.Spec PyProof.Rows L2
def SmallS (ss : List S3) : Prop := ∀ s ∈ ss, s.1 ≤ 10 ^ 15 ∧ s.2.1 ≤ 10 ^ 15 ∧ s.2.2 ≤ 10 ^ 15
def spStays : Sp := fun vs H Q _ => ∃ (p : Addr) (most : Int) (n : Nat), vs = [.ref p, .int most] ∧ Src n H p ∧ n < 100000000 ∧ 0 ≤ most ∧ most ≤ 60 ∧ ∀ H' D ss, ButS p H H' → Src (n + 1000) H' p → H D = none → D ≠ p → Row H' D ss → Good ss → SmallS ss → (ss.length : Int) ≤ most → Q (.ref D) H'
theorem Row.put {n : Nat} {H : Hp} {p D : Addr} {s : S3} {ss : List S3} {us : List V} (pu : Paired (St H) us ss) (gD : H D = some (.lst us)) (t : Addr) (ht : H t = some (.tup [.int s.1, .int s.2.1, .int s.2.2])) :
    Row (upd H D (.lst (us ++ [.ref t]))) D (ss ++ [s]) := by
  refine ⟨_, upd_same, Paired.snoc (Paired.imp (fun _ _ z => z.putL gD) pu) ?_⟩
  exact St.putL ⟨t, rfl, ht⟩ gD
section
variable {P : Program} {w : World} {K : PySem.W.Frag} {mg : Str → Option Value} {base : Heap}
theorem scStays : FnScope ["stream", "most", "many", "span", "scale", "found", "k", "begin", "end"] ["stream", "most"] (defScope sStays) := ⟨rfl, rfl, rfl, by decide +kernel, rfl, by decide +kernel, by decide +kernel⟩
theorem pick_int {K : PySem.W.Frag} {p : Addr} {H : Hp} {n : Nat} {is : List Int} {Q : VK} {E : XK} (S : Src n H p) (hn : n < 1000000000) {t : Addr} (nt : H t = none) (hl : 0 < is.length) (hl2 : is.length < 1000000) (q : ∀ H' i, ButS p H H' → Src (n + 1) H' p → i ∈ is → Q (.int i) H') :
    spPick K [.ref p, .ref t] (upd H t (.lst (is.map V.int))) Q E := by
  have S1 : Src n (upd H t (.lst (is.map V.int))) p := S.but nt
  refine ⟨p, t, is.map V.int, n, rfl, S1, hn, SqL.of upd_same, S.ne nt, by rw [List.length_map]; exact hl, by rw [List.length_map]; exact hl2, fun H' j x B S' hx => ?_⟩
  rw [List.getElem?_map] at hx
  obtain ⟨i, hi, rfl⟩ := Option.map_eq_some_iff.mp hx
  exact q H' i ((ButS.same (Same.new nt)).trans B) S' (List.mem_of_getElem? hi)
theorem ok_stays {f fD fP : Addr} {fd fdD fdP : FuncData} (F : Fun K "_law_stays" "_law_stays" sStays f fd) (T : TxtD mg)
    (GD : FnOk P w K mg base CX0 1 fD fdD ["stream", "many"] spDraw) (gD : mg "_law_draw" = some (.ref fD)) (kD : PySem.W.keepIn K (.ref fD) = true) (bD : Binds K fdD ["stream", "many"] [])
    (GP : FnOk P w K mg base CX0 2 fP fdP ["stream", "things"] (spPick K)) (gP : mg "_law_pick" = some (.ref fP)) (kP : PySem.W.keepIn K (.ref fP) = true) (bP : Binds K fdP ["stream", "things"] []) : FnOk P w K mg base CX0 3 f fd ["stream", "most"] spStays := by
  refine F.ok scStays (fun vs H Q E h => ?_) (fun cdv A outer s H vs Q E hr h => ?_)
  · obtain ⟨p, most, n, rfl, _⟩ := h
    rfl
  · obtain ⟨p, most, n, rfl, S, hn, m0, m1, q⟩ := h
    have nd := scStays.nd
    have hr1 := hr.mono (show 1 ≤ 2 by decide)
    refine ⟨_, pss_cons (ps_par (i := 2) (j := 3) (by rfl) nd rfl rfl (by decide) rfl rfl (pa_cons (pe_call GD hr1 (by rfl) gD kD bD .nil pass0 (pa_cons (pv 0) (pa_cons (pe_op op_add (pv 1) pe_int) pa_nil))) (pa_cons (pe_call GP hr (by rfl) gP kP bP .nil pass0 (pa_cons (pv 0) (pa_cons (pe_lst (pa_cons pe_int (pa_cons pe_int (pa_cons pe_int pa_nil)))) pa_nil))) pa_nil)) (by rfl))
      (pss_cons (ps_set (i := 4) nd rfl (Or.inl rfl) (pe_call GP hr (by rfl) gP kP bP .nil pass0 (pa_cons (pv 0) (pa_cons (pe_lst (pa_cons pe_int (pa_cons pe_int (pa_cons pe_int (pa_cons (pe_op op_add (pe_op op_pow pe_int pe_int) pe_int) pa_nil))))) pa_nil))))
      (pss_cons (ps_set (i := 5) nd rfl (Or.inl rfl) (pe_lst pa_nil))
      (pss_cons (ps_for PassesOwn.never rfl (pi_range1 (by rfl) T.rng (pa_cons (pv 2) pa_nil)) (pg_name (i := 6) nd rfl (Or.inl rfl))
        (pss_cons (ps_set (i := 7) nd rfl (Or.inl rfl) (pe_call GD hr1 (by rfl) gD kD bD .nil pass0 (pa_cons (pv 0) (pa_cons (pv 3) pa_nil))))
        (pss_cons (ps_set (i := 8) nd rfl (Or.inl rfl) (pe_op op_add (pv 7) (pe_op op_mul (pe_call GD hr1 (by rfl) gD kD bD .nil pass0 (pa_cons (pv 0) (pa_cons pe_int pa_nil))) (pe_call GD hr1 (by rfl) gD kD bD .nil pass0 (pa_cons (pv 0) (pa_cons pe_int pa_nil))))))
        (pss_one (ps_expr (pe_bm PySem.F.plainAttrs_list PySem.F.slot_list_append PySem.F.type_list_append mt_append (pv 5)
          (pa_cons (pe_tup (pa_cons (pe_op op_mul (pv 4) (pv 7)) (pa_cons (pe_op op_mul (pv 4) (pv 8)) (pa_cons (pe_op op_mul (pv 4) (pe_call GD hr1 (by rfl) gD kD bD .nil pass0 (pa_cons (pv 0) (pa_cons pe_int pa_nil)))) pa_nil)))) pa_nil)))))))
      (pss_one (ps_ret (pv 5)))))), ?_⟩
    refine ⟨_, rfl, _, rfl, _, _, rfl, rfl, p, _, n, rfl, S, by omega, by omega, ?_, fun G1 many B1 S1 a0 a1 => ?_⟩
    · have e : (most + 1).natAbs < 1000000 := by omega
      exact Nat.lt_of_lt_of_le e (Nat.le_trans (by decide : 1000000 ≤ 2 ^ 20) (Nat.pow_le_pow_right (by decide) (by decide)))
    refine ⟨_, rfl, by show 3 ≤ sizeLine; decide, fun t nt => ?_⟩
    refine pick_int (E := E0) (is := [4, 9, 20]) S1 (by omega) nt (by decide) (by decide) fun G2 span B2 S2 hsp => ?_
    have sp0 : 0 < span ∧ span < 100 := by
      simp at hsp
      omega
    refine ⟨_, _, rfl, _, rfl, 10, 9, rfl, rfl, ⟨by decide, by decide, by decide⟩, _, 7, rfl, rfl, by show 4 ≤ sizeLine; decide, fun t2 nt2 => ?_⟩
    refine pick_int (E := E0) (is := [1, 1, 1, 1000000007]) S2 (by omega) nt2 (by decide) (by decide) fun G3 scale B3 S3 hsc => ?_
    have sc0 : 0 < scale ∧ scale < 10000000000 := by
      simp at hsc
      omega
    refine ⟨Nat.zero_le _, fun D nD => ?_⟩
    have Dp : D ≠ p := S3.ne nD
    have B03 := (B1.trans B2).trans B3
    have nD0 : H D = none := S3.free B03 nD
    have B4 : ButS p H (upd G3 D (.lst [])) := B03.trans (ButS.same (Same.new nD))
    have S4 : Src (n + 3) (upd G3 D (.lst [])) p := S3.but nD
    have gD4 : (upd G3 D (.lst [])) D = some (.lst []) := upd_same
    show tSeq _ _ _ _ (upd G3 D (.lst []))
    generalize upd G3 D (.lst []) = G4 at B4 S4 gD4 ⊢
    refine ⟨_, rfl, many, rfl, by omega, by omega, ?_⟩
    refine for_range (n := many.toNat) (fun i σ G => (∃ o6 o7 o8 : Option V, σ = [some (.ref p), some (.int most), some (.int many), some (.int span), some (.int scale), some (.ref D), o6, o7, o8]) ∧ ButS p H G ∧ Src (n + 3 + 4 * i) G p ∧ ∃ ss, Row G D ss ∧ Good ss ∧ SmallS ss ∧ ss.length = i)
      ⟨⟨_, _, _, rfl⟩, B4, S4, [], ⟨[], gD4, .nil⟩, fun s m => (by cases m), fun s m => (by cases m), rfl⟩ ?_ ?_
    · rintro i σ G hi ⟨⟨o6, o7, o8, rfl⟩, B, S, ss, row, g, sm, ls⟩
      have hi60 : i < 60 := by omega
      refine ⟨_, rfl, _, rfl, p, span, _, rfl, S, by omega, sp0.1, ?_, fun J1 begin C1 T1 b0 b1 => ?_⟩
      · have e : span.natAbs < 1000000 := by omega
        exact Nat.lt_of_lt_of_le e (Nat.le_trans (by decide : 1000000 ≤ 2 ^ 20) (Nat.pow_le_pow_right (by decide) (by decide)))
      refine ⟨_, rfl, _, rfl, p, 5, _, rfl, T1, by omega, by decide, by decide, fun J2 x C2 T2 x0 x1 => ?_⟩
      refine ⟨_, rfl, p, 2, _, rfl, T2, by omega, by decide, by decide, fun J3 y C3 T3 y0 y1 => ?_⟩
      refine ⟨x, y, rfl, rfl, .inl ⟨by omega, by omega⟩, _, _, rfl, rfl, ?_⟩
      have xy : 0 ≤ x * y := Int.mul_nonneg x0 y0
      obtain ⟨vs3, hv3, _⟩ := row.but S Dp ((C1.trans C2).trans C3)
      refine ⟨_, rfl, .inl ⟨rfl, vs3, SqL.of hv3⟩, _, rfl, _, rfl, scale, begin, rfl, rfl, .inl ⟨by omega, by omega⟩, _, rfl, _, rfl, scale, _, rfl, rfl, .inl ⟨by omega, by omega⟩, _, rfl, _, rfl, p, 7, _, rfl, T3, by omega, by decide, by decide, fun J4 life C4 T4 l0 l1 => ⟨scale, life, rfl, rfl, .inl ⟨by omega, by omega⟩, by show 3 ≤ sizeLine; decide, fun t nt => ?_⟩⟩
      obtain ⟨vs, hv, pv⟩ := row.but S Dp (((C1.trans C2).trans C3).trans C4)
      have pv2 : Paired (St (upd J4 t (.tup [.int (scale * begin), .int (scale * (begin + x * y)), .int (scale * life)]))) vs ss := Paired.imp (fun _ _ z => St.same z (Same.new nt)) pv
      have hv2 := Same.new (u := .tup [.int (scale * begin), .int (scale * (begin + x * y)), .int (scale * life)]) nt _ _ hv
      have lv := pv.length
      refine ⟨D, vs, _, rfl, rfl, hv2, by rw [sizeLine_eq]; omega, ⟨_, _, _, rfl⟩, fun b o nb e => (by rw [upd_ne (ne_of_none e nD0)]; exact ((B.trans ((C1.trans C2).trans (C3.trans C4))).trans (ButS.same (Same.new nt))) b o nb e), ((T4.but nt).put Dp).mono (by omega), ss ++ [(scale * begin, scale * (begin + x * y), scale * life)], ?_, ?_, ?_, by rw [List.length_append, ls] <;> rfl⟩
      · exact Row.put (n := 0) (p := p) (s := (scale * begin, scale * (begin + x * y), scale * life)) pv2 hv2 t upd_same
      · intro s m
        rcases List.mem_append.mp m with z | z
        · exact g s z
        · rw [List.mem_singleton.mp z]
          refine ⟨Int.mul_nonneg (by omega) b0, Int.mul_le_mul_of_nonneg_left (by omega) (by omega), Int.mul_nonneg (by omega) l0⟩
      · intro s m
        rcases List.mem_append.mp m with z | z
        · exact sm s z
        · rw [List.mem_singleton.mp z]
          have xy2 : x * y ≤ 4 * 1 := Int.mul_le_mul (by omega) (by omega) y0 (by omega)
          have w1 : scale * begin ≤ 10000000000 * 100 := Int.mul_le_mul (by omega) (by omega) b0 (by omega)
          have w2 : scale * (begin + x * y) ≤ 10000000000 * 200 := Int.mul_le_mul (by omega) (by omega) (by omega) (by omega)
          have w3 : scale * life ≤ 10000000000 * 100 := Int.mul_le_mul (by omega) (by omega) l0 (by omega)
          exact ⟨by show scale * begin ≤ 10 ^ 15; omega, by show scale * (begin + x * y) ≤ 10 ^ 15; omega, by show scale * life ≤ 10 ^ 15; omega⟩
    · rintro σ G ⟨⟨o6, o7, o8, rfl⟩, B, S, ss, row, g, sm, ls⟩
      exact ⟨_, rfl, q G D ss B (S.mono (by omega)) nD0 Dp row g sm (by omega)⟩
end
end OB
namespace OB
open PySem PySem.Spec PyProof.Rows L2
theorem ix_tupK {X : Cx} {K : PySem.W.Frag} (h : X.K = K) : IxR X (rIxT K) := by
  subst h
  exact ix_tup
def spLast : Sp := fun vs H Q _ => ∃ (v : V) (s : S3), vs = [v] ∧ St H v s ∧ ∀ H', Same H H' → Q (.int (s.2.1 + s.2.2)) H'
def spLBound : Sp := fun vs H Q _ => ∃ (a : Addr) (ss : List S3) (d : Int), vs = [.ref a, .int d] ∧ Row H a ss ∧ ss.length ≤ 1000 ∧ ∀ H', Same H H' → Q (.int (OM.cB (OM.spans ss) d : Nat)) H'
def spLLeast : Sp := fun vs H Q _ => ∃ (a : Addr) (ss : List S3), vs = [.ref a] ∧ Row H a ss ∧ ss.length ≤ 1000 ∧ ∀ H', Same H H' → Q (.int (OM.need ss)) H'
section
variable {P : Program} {w : World} {K : PySem.W.Frag} {mg : Str → Option Value} {base : Heap}
end
end OB
namespace OB
open PySem PySem.Spec PyProof.Rows L2
/-! ### set of a list of whole numbers; sorted of it -/
def fewI (xs : List Int) : Nat → Nat
  | 0 => 0
  | i + 1 => if xs.getD i 0 ∈ xs.take i then fewI xs i else fewI xs i + 1
theorem fewI_le (xs : List Int) : ∀ i, fewI xs i ≤ i
  | 0 => Nat.le_refl _
  | i + 1 => by
    have z := fewI_le xs i
    unfold fewI
    split <;> omega
theorem takeI_more {xs : List Int} {i : Nat} (h : i < xs.length) : xs.take (i + 1) = xs.take i ++ [xs.getD i 0] := by
  rw [List.take_add_one, List.getElem?_eq_getElem h, List.getD_eq_getElem?_getD, List.getElem?_eq_getElem h] <;> rfl
theorem memI_more {xs : List Int} {i : Nat} (h : i < xs.length) (y : Int) : (decide (y ∈ xs.take i) || decide (y = xs.getD i 0)) = decide (y ∈ xs.take (i + 1)) := by
  rw [takeI_more h, Bool.eq_iff_iff]
  simp
theorem ints_len : ∀ {us : List Value} {xs : List Int}, IntsAre us xs → us.length = xs.length
  | _, _, .nil => rfl
  | _, _, .cons n t r => congrArg (· + 1) (ints_len r)
theorem ints_at : ∀ {us : List Value} {xs : List Int}, IntsAre us xs → ∀ (i : Nat) (v : Value), us[i]? = some v → ∃ t, v = .int (xs.getD i 0) t
  | _, _, .nil, i, v, h => by simp at h
  | _, _, .cons n t r, 0, v, h => ⟨t, by simpa using h.symm⟩
  | _, _, .cons n t r, i + 1, v, h => by
    obtain ⟨t', e⟩ := ints_at r i v (by simpa using h)
    exact ⟨t', by simpa using e⟩
def freshI (w : World) : Obj := { cls := .type "set", dict := none, data := .set #[] 0 (.fresh 0 0 (!w.params.followText "set-order")) }
section
variable {P : Program} {w : World} {A : Around} {E : Value → Shared → Prop} {s : Shared}
theorem code_set_led1 {v : Value} {Q₁ : Value → Shared → Prop}
    (h : Q₁ (.ref s.heap.objs.size) { s with heap := s.heap.push (freshI w) }) :
    codeAny (model P w) A (.call (.builtin "set.__new__") ⟨[.type "set", v], []⟩) (wants Q₁ E) s := by
  refine codeAny_of_tree ?_
  show wpAny _ A.in1 (do checkBuiltinCall "set.__new__" ⟨[.type "set", v], []⟩; again (.builtin "set.__new__" ⟨[.type "set", v], []⟩)) _ _ s
  refine wpAny_bind (wpAny_of_eq (F.newCall_set_1 v) (wpAny_pure ⟨plainId_quiet F.plain_set_new _, codeAny_builtin F.entry_set_new ?_⟩))
  rw [Around.under_plainId F.plain_set_new _]
  unfold Builtin.«set.__new__» Builtin.Frozenset.newClass
  have hsub := sub_set_self
  obtain ⟨hp, g, d, tk, os⟩ := s
  dsimp only
  wp_walk
  refine wpAny_askSetting (wpAny_pure ?_)
  dsimp only
  simp only [newObj]
  refine wpAny_bind (wpAny_alloc (wpAny_pure ?_))
  exact wpAny_pure h
end
section
variable {prog : Program} {w : World} {A : Around} {R : Result → Shared → Prop} {J : Addr} {fp wr : List Addr} {G : Array GenState → Array GenState → Prop} {n : Nat} {Pv : Nat → Value → Prop} {St : Nat → Shared → Prop}
theorem loopI (Wk : WalksS prog w A.in1 J fp wr G n Pv St) (D : Addr) (nD : D ∉ fp) (xs : List Int) (hlen : xs.length = n) (hv : ∀ i v, Pv i v → ∃ t, v = .int (xs.getD i 0) t) (hb : n + 1 < scanBound) :
    ∀ (r i : Nat) (s : Shared), n - i = r → i ≤ n → St i s → SetR w s.heap D (fun y => decide (y ∈ xs.take i)) (fewI xs i) →
      (∀ s', Moved (D :: wr) G s s' → SetR w s'.heap D (fun y => decide (y ∈ xs.take n)) (fewI xs n) → R (.ok (.ret .none)) s') →
      codeAny (model prog w) A (.builtin "set.update.loop" ⟨[.ref D, .ref J], []⟩) R s := by
  have nDw : D ∉ wr := fun q => nD (Wk.sub _ q)
  have more : ∀ b ∈ wr, b ∈ D :: wr := fun b q => List.mem_cons_of_mem _ q
  have stay : ∀ {s s' : Shared} {f : Int → Bool} {m : Nat}, Moved wr G s s' → SetR w s.heap D f m → SetR w s'.heap D f m := fun mv z => z.at fun o g1 => mv.heap D _ nDw g1
  intro r
  induction r with
  | zero =>
    intro i s e1 e2 st hD fin
    obtain rfl : i = n := by omega
    refine codeAny_builtin PyProof.Rows.F.entry_set_update_loop (by
      rw [Around.under_plainId PyProof.Rows.F.plain_set_update_loop _]
      show wpAny _ A.in1 (pyNext (.ref J) >>= _) _ _ s
      exact wpAny_bind (Wk.done s _ _ st fun s' mv => wpAny_pure (fin s' (mv.mono more) (stay mv hD))))
  | succ r ih =>
    intro i s e1 e2 st hD fin
    have lt : i < n := by omega
    refine codeAny_builtin PyProof.Rows.F.entry_set_update_loop (by
      rw [Around.under_plainId PyProof.Rows.F.plain_set_update_loop _]
      show wpAny _ A.in1 (pyNext (.ref J) >>= _) _ _ s
      refine wpAny_bind (Wk.item i s _ _ lt st fun v s' pv st' mv => ?_)
      obtain ⟨t, rfl⟩ := hv i v pv
      have hD1 := stay mv hD
      show wpAny _ A.in1 (holding [Value.int (xs.getD i 0) t] (setAdd D (.int (xs.getD i 0) t)) >>= _) _ _ s'
      refine wpAny_bind (wpAny_holding (by
        unfold setAdd
        refine wpAny_holding (wpAny_bind ((PySem.intKind prog w).pyHash (k := xs.getD i 0) (intKind_is _ _ _ _) ?_))
        have room : fewI xs i + 1 < scanBound := by
          have z := fewI_le xs i
          omega
        refine setR_add_hashed (s := { s' with toks := s'.toks + 1 }) hD1 room fun g sb hD2 => ?_
        have hD3 : SetR w g D (fun y => decide (y ∈ xs.take (i + 1))) (fewI xs (i + 1)) := by
          have e : fewI xs (i + 1) = (if (fun y => decide (y ∈ xs.take i)) (xs.getD i 0) = true then fewI xs i else fewI xs i + 1) := by
            show (if xs.getD i 0 ∈ xs.take i then _ else _) = _
            by_cases y : xs.getD i 0 ∈ xs.take i
            · rw [if_pos y, if_pos (decide_eq_true y)]
            · rw [if_neg y, if_neg (by simpa using y)]
          rw [e]
          exact hD2.congr fun y => (memI_more (by omega) y).symm
        refine wpAny_pure ⟨plainId_quiet PyProof.Rows.F.plain_set_update_loop _, ih (i + 1) _ (by omega) lt (Wk.frame _ s' _ _ st' (Nat.le_succ _) fun b m o e => ?_) hD3 fun s2 mv2 hD4 => ?_⟩
        · rw [sb.2 b (fun z : b = D => nD (z ▸ m))]
          exact e
        · refine fin s2 (Moved.trans Wk.gtrans ((mv.mono more).then_heap (Nat.le_succ _) fun b o m e => ?_) mv2) hD4
          rw [sb.2 b (fun z : b = D => m (z ▸ List.mem_cons_self))]
          exact e)))
end
section
variable {prog : Program} {w : World} {A : Around} {E : Value → Shared → Prop} {s : Shared}
/-- set(a list of ints) -/
theorem call_setI {l : Addr} {its : Array Value} {xs : List Int} {Q : Value → Shared → Prop} (hh : A.handled = none) (hl : s.heap.IsList l its) (hi : IntsAre its.toList xs) (hb : its.size + 1 < scanBound)
    (fin : ∀ (g : Heap) (tk : Nat), SetR w g s.heap.objs.size (fun y => decide (y ∈ xs.take its.size)) (fewI xs its.size) → (∀ b o, b < s.heap.objs.size → s.heap.get? b = some o → g.get? b = some o) → Q (.ref s.heap.objs.size) { s with heap := g, toks := tk }) :
    wpAny (model prog w) A (call (.type "set") [.ref l]) Q E s := by
  obtain ⟨mc, mt, k1⟩ := PySem.F.called_set.mro
  have k2 := PySem.F.called_set.made
  have k3 := PySem.F.called_set.sub
  refine wpAny_call (codeAny_of_tree (by
    show wpAny _ _ (callAny (.type "set") _) _ _ _
    refine wpAny_pure ⟨Code.quiet_builtin _ (by decide +kernel), codeAny_builtin PySem.F.entry_type_call (by
      rw [Around.under_plain (weight_type_call_type "set" [.ref l] []) rfl]
      have k4 := PySem.F.called_set.notType
      have k5 := PySem.F.called_set.canCreate
      have k6 := PySem.F.typeCall_set_1 (.ref l)
      repeat any_goals first | assumption | wp_step
      refine codeAny_mono (code_set_led1 (v := .ref l) (E := E) (Q₁ := fun v s1 => v = .ref s.heap.objs.size ∧ s1 = { s with heap := s.heap.push (freshI w) }) ⟨rfl, rfl⟩) fun r s1 q => ?_
      cases r with
      | error e => exact q
      | ok fl =>
        cases fl with
        | next => exact q.elim
        | brk => exact q.elim
        | cont => exact q.elim
        | ret v =>
          obtain ⟨rfl, rfl⟩ := q
          have dS : (s.heap.push (freshI w)).get? s.heap.objs.size = some (freshI w) := Heap.get?_push_size _ rfl
          have tS : Shared.TypeIs { s with heap := s.heap.push (freshI w) } (.ref s.heap.objs.size) "set" := ⟨_, dS, rfl⟩
          have k7 := PySem.F.called_set.init.lookup
          have k8 := PySem.F.called_set.init.bind (.ref s.heap.objs.size)
          repeat any_goals first | assumption | wp_step
          refine codeAny_mono (codeAny_call_builtin (R := wants (fun v s2 => v = .none ∧ ∃ g tk, s2 = { s with heap := g, toks := tk } ∧ SetR w g s.heap.objs.size (fun y => decide (y ∈ xs.take its.size)) (fewI xs its.size) ∧
              ∀ b o, b < s.heap.objs.size → s.heap.get? b = some o → g.get? b = some o) E) PySem.F.called_set.init.plain PySem.F.entry_set_init (check_set_init_1 tS ?_)) fun r2 s2 q2 => ?_
          · obtain ⟨⟨oc, od, dt, sl⟩, ol, cl, nn, dl⟩ := hl
            simp only at cl dl
            subst cl dl
            have ol2 : (s.heap.push (freshI w)).get? l = some { cls := .type "list", dict := od, data := .seq its nn, slots := sl } := Heap.get?_push_of_some _ ol
            have m1 := PySem.F.sub_list_set
            have m2 := PySem.F.sub_list_frozenset
            have m3 : (Value.type "list" == Value.type "dict") = false := by decide
            have ll : (s.heap.push (freshI w)).IsList l its := ⟨_, ol2, rfl, nn, rfl⟩
            unfold Builtin.«set.__init__» noKeywords Builtin.Frozenset.updateFrom
            generalize hPI : pyIter = PI
            wp_walk
            subst hPI
            have ls : l < s.heap.objs.size := Heap.lt_size ol
            have sz : (s.heap.push (freshI w)).objs.size = s.heap.objs.size + 1 := Heap.size_push ..
            have h3 : A.in1.in1.in1.handled = none := by simp [hh]
            have nI : l ≠ (s.heap.push (freshI w)).objs.size := by rw [sz]; exact Nat.ne_of_lt (Nat.lt_succ_of_lt ls)
            have nS : s.heap.objs.size ∉ [(s.heap.push (freshI w)).objs.size, l] := fun m => by
              rcases List.mem_cons.mp m with z | z
              · rw [sz] at z
                exact absurd z (Nat.ne_of_lt (Nat.lt_succ_self _))
              · exact absurd (List.mem_singleton.mp z) (Nat.ne_of_gt ls)
            have ln : xs.length = its.size := by rw [← ints_len hi, Array.length_toList]
            refine wpAny_pyIter_list ll (wpAny_bind (wpAny_runValue (loopI ((Walks.list h3 _ l nI its).toS) s.heap.objs.size nS xs ln (fun i v e => ints_at hi i v (by rw [Array.getElem?_toList]; exact e)) hb (its.size - 0) 0 _ (by omega) (Nat.zero_le _)
              ⟨⟨_, Heap.get?_push_size _ rfl, rfl, rfl⟩, ll.push _⟩ ?_ ?_)))
            · exact ((setR_fresh (h := s.heap) w).at fun o e => Heap.get?_push_of_some _ e).congr fun k => by simp
            · rintro ⟨g, gn, dr, tk, os⟩ mv hD
              obtain rfl : gn = s.gens := mv.gens
              obtain rfl : dr = s.drawn := mv.drawn
              obtain rfl : os = s.os := mv.os
              show wpAny _ _ _ _ _ _
              refine wpAny_pure (by
                show wpAny _ _ (ret Value.none) _ _ _
                refine wpAny_pure ⟨rfl, g, tk, rfl, hD, fun b o lb e => mv.heap b o (fun m => ?_) (Heap.get?_push_of_some _ (Heap.get?_push_of_some _ e))⟩
                rcases List.mem_cons.mp m with z | z
                · exact absurd z (Nat.ne_of_lt lb)
                · have y := List.mem_singleton.mp z
                  rw [sz] at y
                  exact absurd y (Nat.ne_of_lt (Nat.lt_succ_of_lt lb)))
          · cases r2 with
            | error e => exact q2
            | ok f2 =>
              cases f2 with
              | next => exact q2.elim
              | brk => exact q2.elim
              | cont => exact q2.elim
              | ret v =>
                obtain ⟨rfl, g, tk, rfl, hD, kp⟩ := q2
                repeat any_goals first | assumption | wp_step
                exact fin g _ hD kp)⟩))
end
end OB
namespace OB
open PySem PySem.Spec PyProof.Rows L2
def rSetI (w : World) (K : PySem.W.Frag) : List V → Hp → VK → Prop := fun xs H Q => ∃ (l : Addr) (ns : List Int), xs = [.ref l] ∧ SqL K H l (ns.map V.int) ∧ ns.length + 1 < 4096 ∧ ∀ p n, H p = none → n ≤ ns.length → Q (.ref p) (upd H p (SetO w p (fun y => decide (y ∈ ns)) n))
theorem cr_setI {X : Cx} (hc : X.calm = true) : CallR X (.type "set") (rSetI X.w X.K) := by
  intro pins s σ H vs us Q I r h
  obtain ⟨l, ns, rfl, hs, hb, q⟩ := h
  rw [Vals.ref1 r]
  obtain ⟨its, rv, pl, hz⟩ := I.list hs
  have sz : its.toArray.size = ns.length := by rw [List.size_toArray, ← rv.length, List.length_map]
  refine call_setI (I.ok.hd hc) pl.isList (by simpa using rv.ints) (by rw [sz]; unfold scanBound; omega) fun g tk hS hk => ?_
  rw [sz, List.take_length] at hS
  have J := I.laid (a := s.heap.objs.size) (o := SetO X.w s.heap.objs.size (fun y => decide (y ∈ ns)) (fewI ns ns.length)) (h' := g) (t' := tk) (fun b o e => hk b o (Heap.lt_size e) e) (Nat.le_refl _) (setO_new hS)
  exact ⟨.ref _, _, J, rfl, q _ _ (I.hok.fresh (Nat.le_refl _)) (fewI_le ns _)⟩
theorem sorted_setI {P : Program} {w : World} {A : Around} {E : Value → Shared → Prop} {s : Shared} {a : Addr} {S : Int → Bool} {n : Nat} {Q : Value → Shared → Prop} (R : SetR w s.heap a S n) (hh : A.handled = none) (hz0 : n ≤ sizeLine)
    (hQ : ∀ s' p (out : Array Value) (c : Nat) (ns : List Int), (∀ b o, s.heap.get? b = some o → s'.heap.get? b = some o) → s'.gens = s.gens → s'.os = s.os → s.heap.objs.size ≤ p →
      s'.heap.get? p = some (seqObj "list" out c) → IntsAre out.toList ns → ns.Pairwise (· < ·) → (∀ k, k ∈ ns ↔ S k = true) → ns.length = n → Q (.ref p) s') :
    wpAny (model P w) A (call (.builtin "sorted") [.ref a]) Q E s := by
  obtain ⟨o, es, ep, t, ho, hex, hd, g, nd, hm, hb, hf, hn, hr, hl⟩ := R
  refine Calls.call_function_entry kind_sorted plain_sorted entry_sorted (args_sorted1 _) ?_
  unfold Builtin.«sorted»
  refine wpAny_bind (m := checkCount "sorted" 1 1 _) (wpAny_pure ?_)
  refine wpAny_bind (collect_set (A := A.in1) hh ⟨o, ho, hex.1, hd⟩ hf hb hr hl fun s1 vs k1 hz g1 o1 pm => ?_)
  have hvl : vs.length = n := by rw [pm.length_eq, List.length_map, Array.length_toList]; exact hn
  have hI : IntsAre vs (vs.map Builtin.Re.reRawOf) := ints_of vs fun v hv => by
    obtain ⟨e, he, q⟩ := List.mem_map.mp (pm.mem_iff.mp hv)
    obtain ⟨k, tk, h1, _⟩ := g e he
    exact ⟨k, tk, by rw [← q]; exact h1⟩
  have pk : (vs.map Builtin.Re.reRawOf).Perm (es.toList.map keyOf) := by
    have q := pm.map Builtin.Re.reRawOf
    rw [List.map_map] at q
    exact q
  refine wpAny_bind (wpAny_newList ?_ (by rw [hvl]; exact hz0))
  have hoL : (s1.heap.push (seqObj "list" vs.toArray 0)).get? s1.heap.objs.size = some (seqObj "list" vs.toArray 0) := Heap.get?_push_size _ rfl
  refine wpAny_bind (wpAny_holding (wpAny_call_entry slot_list_sort ⟨_, hoL, rfl⟩ entry_list_sort (SrtO.list_sort_ord SrtO.swo_int hoL (by rw [hvl]; exact hz0) (fun h2 => SrtO.ints_sortable hI h2) fun out h1 h2 => ⟨_, rfl, ?_⟩) (args_list_sort _)))
  obtain ⟨c1, c2, c3⟩ := SrtO.ints_out hI h1 h2
  obtain ⟨c, hc⟩ := sortedHeap_at (vs := vs) (out := out.toArray) hoL
  have pn : (out.map SrtO.iv).Perm (es.toList.map keyOf) := c2.trans pk
  refine wpAny_pure ⟨_, rfl, hQ _ s1.heap.objs.size out.toArray c (out.map SrtO.iv) (fun b u e => ?_) g1 o1 hz hc (by simpa using c1) (lt_of_le_nodup _ c3 (pn.nodup_iff.mpr nd)) (fun k => by rw [pn.mem_iff, ← hm k]) ?_⟩
  · have q := k1 b u e
    have hlt := Heap.lt_size q
    show (sortedHeap (s1.heap.push (seqObj "list" vs.toArray 0)) s1.heap.objs.size vs out.toArray).get? b = some u
    rw [sortedHeap_old (Nat.ne_of_lt hlt) (by rw [size_push']; exact Nat.lt_succ_of_lt hlt)]
    exact Heap.get?_push_of_some _ q
  · rw [pn.length_eq, List.length_map, Array.length_toList]; exact hn
def rSortedSetI (w : World) : List V → Hp → VK → Prop := fun vs H Q => ∃ (a : Addr) (S : Int → Bool) (n : Nat), vs = [V.ref a] ∧ H a = some (SetO w a S n) ∧ n ≤ 10000 ∧
  ∀ (ns : List Int) (p : Addr), ns.Pairwise (· < ·) → (∀ k : Int, k ∈ ns ↔ S k = true) → ns.length = n → H p = none → Q (.ref p) (upd H p (.lst (ns.map V.int)))
theorem cr_sortedSetI {X : Cx} (hc : X.calm = true) : CallR X (.builtin "sorted") (rSortedSetI X.w) := by
  intro pins s σ H vs us Q I r h
  obtain ⟨a, S, n, rfl, ha, hn10, q⟩ := h
  have R := setO_get I ha
  rw [Vals.ref1 r]
  refine sorted_setI R (I.ok.hd hc) (by rw [sizeLine_eq]; omega) fun s' p out c ns k g o hp hg hi hs hm hl => ?_
  have hlen : (ns.map V.int).length ≤ sizeLine := by rw [List.length_map, hl, sizeLine_eq]; omega
  have hn : H p = none := I.hok.fresh hp
  have J : Inv X pins σ (upd H p (.lst (ns.map V.int))) { s with heap := s'.heap, gens := s'.gens, drawn := s'.drawn, toks := s'.toks } :=
    I.call (ch := []) (Un.laid k hp hn) (I.hok.laid k hp ⟨hlen, out.toList, c, vals_of_ints hi, hg⟩) (by rw [g]; exact I.bare) (fun _ z => nomatch z)
  have e : s' = { s with heap := s'.heap, gens := s'.gens, drawn := s'.drawn, toks := s'.toks } := by
    cases s'
    cases s
    cases o
    rfl
  rw [e]
  exact ⟨.ref p, _, J, rfl, q ns p hs hm hl hn⟩
/-! ### data of whole numbers -/
theorem depth_ints : ∀ (cs : List Int), PyData.depthAll (cs.map PyData.int) = 0
  | [] => rfl
  | c :: cs => by
    show max 0 (PyData.depthAll (cs.map PyData.int)) = 0
    rw [depth_ints cs]
    rfl
theorem lay_ints : ∀ (cs : List Int), PyData.canLayAll0 (cs.map PyData.int) = true
  | [] => rfl
  | c :: cs => by
    show (true && PyData.canLayAll0 (cs.map PyData.int)) = true
    rw [lay_ints cs]
    rfl
theorem shaped_ints (cs : List Int) : SeqAt.shaped (.list (cs.map PyData.int)) = true := by
  show (PyData.canLayAll0 (cs.map PyData.int) && decide (PyData.depthAll (cs.map PyData.int) + 1 ≤ 64)) = true
  rw [lay_ints, depth_ints]
  rfl
theorem dp_ints {K : PySem.W.Frag} {H : Hp} : ∀ (cs : List Int), DpAll K H (cs.map V.int) (cs.map PyData.int)
  | [] => .nil
  | c :: cs => .cons (.int c) (dp_ints cs)
theorem eqv_nilI (cs : List Int) : PyData.eqv (.list (cs.map PyData.int)) (.list []) = cs.isEmpty := by
  cases cs <;> rfl
def prD (p : Int × Int) : PyData := .tuple [.int p.1, .int p.2]
theorem dpR {K : PySem.W.Frag} {H : Hp} : ∀ {ts : List V} {r : List (Int × Int)}, Paired (Sp2 H) ts r → DpAll K H ts (r.map prD)
  | _, _, .nil => .nil
  | _, _, .cons f p => by
    obtain ⟨a, rfl, h⟩ := f
    exact .cons (.tup (SqT.of h) (.cons (.int _) (.cons (.int _) .nil))) (dpR p)
theorem layR : ∀ r : List (Int × Int), PyData.canLayAll0 (r.map prD) = true ∧ PyData.depthAll (r.map prD) ≤ 1
  | [] => ⟨rfl, Nat.zero_le _⟩
  | p :: r => by
    obtain ⟨i1, i2⟩ := layR r
    refine ⟨?_, ?_⟩
    · show (true && PyData.canLayAll0 (r.map prD)) = true
      rw [i1]
      rfl
    · show max (max 0 (max 0 0) + 1) (PyData.depthAll (r.map prD)) ≤ 1
      exact Nat.max_le.mpr ⟨by decide, i2⟩
theorem shapedR (r : List (Int × Int)) : SeqAt.shaped (.list (r.map prD)) = true := by
  obtain ⟨h1, h2⟩ := layR r
  show (PyData.canLayAll0 (r.map prD) && decide (PyData.depthAll (r.map prD) + 1 ≤ 64)) = true
  rw [h1, decide_eq_true (by omega)]
  rfl
theorem eqv_nilR : ∀ r : List (Int × Int), PyData.eqv (.list (r.map prD)) (.list []) = r.isEmpty
  | [] => rfl
  | _ :: _ => rfl
end OB
namespace OB
open PySem PySem.Spec PyProof.Rows L2
abbrev sLOdd : Stmt := top 33
def spOdd (K : PySem.W.Frag) : Sp := fun vs H Q _ => ∃ (p : Addr) (n : Nat), vs = [.ref p] ∧ Src n H p ∧ n < 1000000000 ∧ ∀ H' v, ButS p H H' → Src (n + 1) H' p → Thing K H' v none → (∀ b, v = .ref b → H b = none) → Q v H'
theorem thing_tup {K : PySem.W.Frag} {H : Hp} {a : Addr} {xs : List V} (h : H a = some (.tup xs)) (ha : ∀ x ∈ xs, ∃ k, Any K H x k) (l : xs.length < 1000) (e : stayOf xs = none) : Thing K H (.ref a) none := e ▸ Thing.seq (tp := true) h ha l
theorem any_cons {P : V → Prop} {x : V} {xs : List V} (h : P x) (r : ∀ y ∈ xs, P y) : ∀ y ∈ x :: xs, P y := fun y m => by
  rcases List.mem_cons.mp m with e | m
  · rw [e]; exact h
  · exact r y m
theorem any_nil {P : V → Prop} : ∀ y ∈ ([] : List V), P y := fun _ m => by cases m
section
variable {P : Program} {w : World} {K : PySem.W.Frag} {mg : Str → Option Value} {base : Heap}
theorem scOdd : FnScope ["stream", "odds"] ["stream"] (defScope sLOdd) := ⟨rfl, rfl, rfl, by decide +kernel, rfl, by decide +kernel, by decide +kernel⟩
theorem ok_odd {f fP : Addr} {fd fdP : FuncData} (F : Fun K "_law_odd_stay" "_law_odd_stay" sLOdd f fd) (GP : FnOk P w K mg base CX0 2 fP fdP ["stream", "things"] (spPick K)) (gP : mg "_law_pick" = some (.ref fP)) (kP : PySem.W.keepIn K (.ref fP) = true) (bP : Binds K fdP ["stream", "things"] []) : FnOk P w K mg base CX0 3 f fd ["stream"] (spOdd K) := by
  refine F.ok scOdd (fun vs H Q E h => ?_) (fun cdv A outer s H vs Q E hr h => ?_)
  · obtain ⟨p, n, rfl, _⟩ := h
    rfl
  · obtain ⟨p, n, rfl, S, hn, q⟩ := h
    have nd := scOdd.nd
    refine ⟨_, pss_cons (ps_set (i := 1) nd rfl (Or.inl rfl) (pe_lst (pa_cons pe_non (pa_cons pe_int (pa_cons pe_str (pa_cons (pe_tup pa_nil) (pa_cons (pe_tup (pa_cons pe_int (pa_cons pe_int pa_nil))) (pa_cons (pe_tup (pa_cons pe_int (pa_cons pe_int (pa_cons pe_int (pa_cons pe_int pa_nil))))) (pa_cons (pe_tup (pa_cons pe_int (pa_cons pe_int (pa_cons pe_int pa_nil)))) (pa_cons (pe_tup (pa_cons pe_bl (pa_cons pe_int (pa_cons pe_int pa_nil)))) (pa_cons (pe_tup (pa_cons pe_int (pa_cons pe_int (pa_cons (pe_un un_neg pe_int) pa_nil)))) (pa_cons (pe_tup (pa_cons pe_int (pa_cons pe_str (pa_cons pe_int pa_nil)))) (pa_cons pe_dnewK (pa_cons (pe_tup (pa_cons (pe_un un_neg pe_int) (pa_cons pe_int (pa_cons pe_int pa_nil)))) pa_nil))))))))))))))
      (pss_one (ps_ret (pe_call GP hr (by rfl) gP kP bP .nil pass0 (pa_cons (pv 0) (pa_cons (pv 1) pa_nil))))), ?_⟩
    have e0 := Same.refl H
    refine ⟨Nat.zero_le _, fun a1 n1 => ?_⟩
    have f1 : Same H (upd H a1 (.tup [])) := Same.new n1
    have g1 : (upd H a1 (.tup [])) a1 = some (.tup []) := upd_same
    have u1 : H a1 = none := e0.free n1
    have e1 : Same H (upd H a1 (.tup [])) := e0.trans f1
    generalize upd H a1 (.tup []) = J1 at f1 g1 e1
    refine ⟨by show 2 ≤ sizeLine; decide, fun a2 n2 => ?_⟩
    have f2 : Same J1 (upd J1 a2 (.tup [.int 1, .int 2])) := Same.new n2
    have g2 : (upd J1 a2 (.tup [.int 1, .int 2])) a2 = some (.tup [.int 1, .int 2]) := upd_same
    have u2 : H a2 = none := e1.free n2
    have e2 : Same H (upd J1 a2 (.tup [.int 1, .int 2])) := e1.trans f2
    generalize upd J1 a2 (.tup [.int 1, .int 2]) = J2 at f2 g2 e2
    refine ⟨by show 4 ≤ sizeLine; decide, fun a3 n3 => ?_⟩
    have f3 : Same J2 (upd J2 a3 (.tup [.int 1, .int 2, .int 3, .int 4])) := Same.new n3
    have g3 : (upd J2 a3 (.tup [.int 1, .int 2, .int 3, .int 4])) a3 = some (.tup [.int 1, .int 2, .int 3, .int 4]) := upd_same
    have u3 : H a3 = none := e2.free n3
    have e3 : Same H (upd J2 a3 (.tup [.int 1, .int 2, .int 3, .int 4])) := e2.trans f3
    generalize upd J2 a3 (.tup [.int 1, .int 2, .int 3, .int 4]) = J3 at f3 g3 e3
    refine ⟨by show 3 ≤ sizeLine; decide, fun a4 n4 => ?_⟩
    have f4 : Same J3 (upd J3 a4 (.tup [.int 3, .int 2, .int 1])) := Same.new n4
    have g4 : (upd J3 a4 (.tup [.int 3, .int 2, .int 1])) a4 = some (.tup [.int 3, .int 2, .int 1]) := upd_same
    have u4 : H a4 = none := e3.free n4
    have e4 : Same H (upd J3 a4 (.tup [.int 3, .int 2, .int 1])) := e3.trans f4
    generalize upd J3 a4 (.tup [.int 3, .int 2, .int 1]) = J4 at f4 g4 e4
    refine ⟨by show 3 ≤ sizeLine; decide, fun a5 n5 => ?_⟩
    have f5 : Same J4 (upd J4 a5 (.tup [.bl true, .int 2, .int 3])) := Same.new n5
    have g5 : (upd J4 a5 (.tup [.bl true, .int 2, .int 3])) a5 = some (.tup [.bl true, .int 2, .int 3]) := upd_same
    have u5 : H a5 = none := e4.free n5
    have e5 : Same H (upd J4 a5 (.tup [.bl true, .int 2, .int 3])) := e4.trans f5
    generalize upd J4 a5 (.tup [.bl true, .int 2, .int 3]) = J5 at f5 g5 e5
    refine ⟨_, rfl, by show 3 ≤ sizeLine; decide, fun a6 n6 => ?_⟩
    have f6 : Same J5 (upd J5 a6 (.tup [.int 1, .int 2, .int (-1)])) := Same.new n6
    have g6 : (upd J5 a6 (.tup [.int 1, .int 2, .int (-1)])) a6 = some (.tup [.int 1, .int 2, .int (-1)]) := upd_same
    have u6 : H a6 = none := e5.free n6
    have e6 : Same H (upd J5 a6 (.tup [.int 1, .int 2, .int (-1)])) := e5.trans f6
    generalize upd J5 a6 (.tup [.int 1, .int 2, .int (-1)]) = J6 at f6 g6 e6
    refine ⟨by show 3 ≤ sizeLine; decide, fun a7 n7 => ?_⟩
    have f7 : Same J6 (upd J6 a7 (.tup [.int 1, .str "2", .int 3])) := Same.new n7
    have g7 : (upd J6 a7 (.tup [.int 1, .str "2", .int 3])) a7 = some (.tup [.int 1, .str "2", .int 3]) := upd_same
    have u7 : H a7 = none := e6.free n7
    have e7 : Same H (upd J6 a7 (.tup [.int 1, .str "2", .int 3])) := e6.trans f7
    generalize upd J6 a7 (.tup [.int 1, .str "2", .int 3]) = J7 at f7 g7 e7
    refine fun a8 n8 => ?_
    have f8 : Same J7 (upd J7 a8 (.dK [])) := Same.new n8
    have g8 : (upd J7 a8 (.dK [])) a8 = some (.dK []) := upd_same
    have u8 : H a8 = none := e7.free n8
    have e8 : Same H (upd J7 a8 (.dK [])) := e7.trans f8
    generalize upd J7 a8 (.dK []) = J8 at f8 g8 e8
    refine ⟨_, rfl, by show 3 ≤ sizeLine; decide, fun a9 n9 => ?_⟩
    have f9 : Same J8 (upd J8 a9 (.tup [.int (-1), .int 2, .int 3])) := Same.new n9
    have g9 : (upd J8 a9 (.tup [.int (-1), .int 2, .int 3])) a9 = some (.tup [.int (-1), .int 2, .int 3]) := upd_same
    have u9 : H a9 = none := e8.free n9
    have e9 : Same H (upd J8 a9 (.tup [.int (-1), .int 2, .int 3])) := e8.trans f9
    generalize upd J8 a9 (.tup [.int (-1), .int 2, .int 3]) = J9 at f9 g9 e9
    refine ⟨by show 12 ≤ sizeLine; decide, fun od nod => ?_⟩
    have fo : Same J9 (upd J9 od (.lst [.non, .int 5, .str "abc", .ref a1, .ref a2, .ref a3, .ref a4, .ref a5, .ref a6, .ref a7, .ref a8, .ref a9])) := Same.new nod
    have eo := e9.trans fo
    have all : ∀ J, ButS p (upd J9 od (.lst [.non, .int 5, .str "abc", .ref a1, .ref a2, .ref a3, .ref a4, .ref a5, .ref a6, .ref a7, .ref a8, .ref a9])) J → ∀ x ∈ ([.non, .int 5, .str "abc", .ref a1, .ref a2, .ref a3, .ref a4, .ref a5, .ref a6, .ref a7, .ref a8, .ref a9] : List V), Thing K J x none ∧ ∀ b, x = .ref b → H b = none := fun J BJ =>
      (any_cons (⟨.no (.non) rfl, fun b eb => by cases eb⟩)
      (any_cons (⟨.no (.int _) rfl, fun b eb => by cases eb⟩)
      (any_cons (⟨.no (.str (by decide)) rfl, fun b eb => by cases eb⟩)
      (any_cons (⟨thing_tup (BJ _ _ (S.ne u1) (fo _ _ (f9 _ _ (f8 _ _ (f7 _ _ (f6 _ _ (f5 _ _ (f4 _ _ (f3 _ _ (f2 _ _ g1)))))))))) any_nil (by decide) (by first | rfl | decide), fun b eb => by cases eb; exact u1⟩)
      (any_cons (⟨thing_tup (BJ _ _ (S.ne u2) (fo _ _ (f9 _ _ (f8 _ _ (f7 _ _ (f6 _ _ (f5 _ _ (f4 _ _ (f3 _ _ g2))))))))) (any_cons ⟨_, .int _⟩ (any_cons ⟨_, .int _⟩ any_nil)) (by decide) (by first | rfl | decide), fun b eb => by cases eb; exact u2⟩)
      (any_cons (⟨thing_tup (BJ _ _ (S.ne u3) (fo _ _ (f9 _ _ (f8 _ _ (f7 _ _ (f6 _ _ (f5 _ _ (f4 _ _ g3)))))))) (any_cons ⟨_, .int _⟩ (any_cons ⟨_, .int _⟩ (any_cons ⟨_, .int _⟩ (any_cons ⟨_, .int _⟩ any_nil)))) (by decide) (by first | rfl | decide), fun b eb => by cases eb; exact u3⟩)
      (any_cons (⟨thing_tup (BJ _ _ (S.ne u4) (fo _ _ (f9 _ _ (f8 _ _ (f7 _ _ (f6 _ _ (f5 _ _ g4))))))) (any_cons ⟨_, .int _⟩ (any_cons ⟨_, .int _⟩ (any_cons ⟨_, .int _⟩ any_nil))) (by decide) (by first | rfl | decide), fun b eb => by cases eb; exact u4⟩)
      (any_cons (⟨thing_tup (BJ _ _ (S.ne u5) (fo _ _ (f9 _ _ (f8 _ _ (f7 _ _ (f6 _ _ g5)))))) (any_cons ⟨_, .bl _⟩ (any_cons ⟨_, .int _⟩ (any_cons ⟨_, .int _⟩ any_nil))) (by decide) (by first | rfl | decide), fun b eb => by cases eb; exact u5⟩)
      (any_cons (⟨thing_tup (BJ _ _ (S.ne u6) (fo _ _ (f9 _ _ (f8 _ _ (f7 _ _ g6))))) (any_cons ⟨_, .int _⟩ (any_cons ⟨_, .int _⟩ (any_cons ⟨_, .int _⟩ any_nil))) (by decide) (by first | rfl | decide), fun b eb => by cases eb; exact u6⟩)
      (any_cons (⟨thing_tup (BJ _ _ (S.ne u7) (fo _ _ (f9 _ _ (f8 _ _ g7)))) (any_cons ⟨_, .int _⟩ (any_cons ⟨_, .str (by decide)⟩ (any_cons ⟨_, .int _⟩ any_nil))) (by decide) (by first | rfl | decide), fun b eb => by cases eb; exact u7⟩)
      (any_cons (⟨.no (.dct (BJ _ _ (S.ne u8) (fo _ _ (f9 _ _ g8)))) rfl, fun b eb => by cases eb; exact u8⟩)
      (any_cons (⟨thing_tup (BJ _ _ (S.ne u9) (fo _ _ g9)) (any_cons ⟨_, .int _⟩ (any_cons ⟨_, .int _⟩ (any_cons ⟨_, .int _⟩ any_nil))) (by decide) (by first | rfl | decide), fun b eb => by cases eb; exact u9⟩)
      any_nil))))))))))))
    refine ⟨_, rfl, _, rfl, p, od, _, n, rfl, S.same eo, hn, SqL.of upd_same, (S.same e9).ne nod, Nat.succ_pos _, by show 12 < 1000000; decide, fun H2 j x B S2 hx => ?_⟩
    obtain ⟨t1, t2⟩ := all H2 B x (List.mem_of_getElem? hx)
    refine q H2 x (fun b o nb e => B b o nb (eo b o e)) S2 t1 t2
end
end OB
namespace OB
open PySem PySem.Spec PyProof.Rows L2
/-! ### try .. except X as n .. with any number of clauses: one of them always -/
def unS (i : Nat) (D : Ends) : Ends := { nx := fun σ' G => D.nx (σ'.set i none) G, rt := D.rt, bk := fun σ' G => D.bk (σ'.set i none) G, ct := fun σ' G => D.ct (σ'.set i none) G }
def wAs (K : PySem.W.Frag) (i : Nat) (D : Ends) : List (Value × (Addr → Value → Option Addr → TS)) → WX
  | [] => fun _ _ _ _ => False
  | (c, ts) :: r => fun cls d σ H => (PySem.W.exmOne K cls c = some true ∧ ∀ a, H a = none → i < σ.length → ts a cls d (unS i D) (σ.set i (some (.ref a))) H) ∨ (PySem.W.exmOne K cls c = some false ∧ wAs K i D r cls d σ H)
inductive HdsAs (X : Cx) (n : Str) : List ExceptHandler → List (Value × (Addr → Value → Option Addr → TS)) → Prop
  | nil : HdsAs X n [] []
  | cons {x : Str} {c : Value} {ts : Addr → Value → Option Addr → TS} {b₀ : Stmt} {suite : List Stmt} {np pos' : Pos} {hds : List ExceptHandler} {l : List (Value × (Addr → Value → Option Addr → TS))} (hc : Names X x c)
      (hsu : ∀ (a : Addr) (oe : Obj) (cls : Value) (d : Option Addr) (pn : List (Addr × Obj)), Zc cls d oe → (∃ vs, oe.data = .fields vs) → PSs (X.suite a ((a, oe) :: pn)) (b₀ :: suite) (ts a cls d)) (r : HdsAs X n hds l) :
      HdsAs X n (.ExceptHandler (some (.Name x np)) (some n) (b₀ :: suite) pos' :: hds) ((c, ts) :: l)
section
variable {X : Cx} {n : Str} {i : Nat} {body : List Stmt} {h₀ : ExceptHandler} {hds : List ExceptHandler} {l : List (Value × (Addr → Value → Option Addr → TS))} {pos : Pos} {tb : WX → TS}
theorem ps_try_asN (hst : X.stack = X.env :: X.outer) (hfr : X.env.frame = some X.env.locals) (nd : X.N.Nodup) (hi : X.N[i]? = some n) (hk : X.env.kindOf n = some .local)
    (hb : ∀ (W : WX) (pn : List (Addr × Obj)) (xe : Value → Shared → Prop), Takes (X.tr pn xe) W → PassesOwn (model X.prog X.w) X.A X.env xe → PSs (X.tr pn xe) body (tb W))
    (hh : HdsAs X n (h₀ :: hds) l) : PS X (.Try body (h₀ :: hds) [] [] pos) (fun D σ H => tb (wAs X.K i D l) D σ H) := by
  refine ⟨fun pins s σ H D I hq => ?_⟩
  have ok0 := I.ok
  have fr0 : X.A.frames = some (X.env :: X.outer) := ok0.frames.trans (congrArg some hst)
  have loc0 : Loc X.env.scope n := .inl hk
  refine wpAny_Try_except (wpAny_mono ((hb (wAs X.K i D l) (X.pn ++ pins) (fun e z1 => wpAny (model X.prog X.w) X.A (noteFrame e X.env) (fun _ z2 => wpAny (model X.prog X.w) X.A (setFlight e none) (fun _ z3 =>
    wpAny (model X.prog X.w) X.A (handleBy e X.env (h₀ :: hds)) (SP X pins D) X.xe z3) X.xe z2) X.xe z1) (fun u z xx => ?_) PassesOwn.looking).run [] s σ H D (I.toTry _) hq) (fun f z fin => ?_) (fun e z he => he))
  · obtain ⟨a, B, sI, pins2, σ2, G, cls, d, rfl, I2, nb, up, sky, na, os, ag, wish⟩ := xx
    have I3 : Inv X pins σ2 G sI := I2.ofTry ok0
    have sky2 : Sky B (X.env :: X.outer) a (Zc cls d) X.env.locals z.heap := hst ▸ sky
    show wpAny _ X.A (noteFrame (.ref a) X.env) _ _ z
    refine Sky.land Zc.steady fr0 hfr sky2 fun g fl upg => ?_
    have I4 : Inv X pins σ2 G { z with heap := g } := I3.landed nb fl.1 (up.trans upg) os ag
    obtain ⟨oe, vs, he, hz, hd⟩ := fl.there
    have noF : ∀ {h : Heap} {o : Obj} {ws : Array Value}, h.FunFrames B (X.env :: X.outer) → h.get? a = some o → o.data = .fields ws → a ∉ frs (X.env :: X.outer) := fun ff e1 dd hm => by
      obtain ⟨_, o2, e2, no⟩ := ff.mem hm
      rw [e1] at e2
      cases e2
      exact no _ dd
    have nF := noF fl.2.2.1 he hd
    have nLo : a ≠ X.env.locals := fun y => nF (List.mem_filterMap.mpr ⟨X.env, List.mem_cons_self, hfr.trans (congrArg some y.symm)⟩)
    have nFs : a ∉ X.fs := fun hm => by
      obtain ⟨ev, me, q⟩ := List.mem_filterMap.mp hm
      exact nF (List.mem_filterMap.mpr ⟨ev, List.mem_cons_of_mem _ me, q⟩)
    have IS := I4.suite he hd na nLo nFs
    have LT : PySem.W.Looks (model X.prog X.w) g (typeOf (.ref a)) cls := fun A0 Q0 E0 s0 kk q => wpAny_typeOf_ref (kk _ _ he) (hz.1.symm ▸ q)
    have test : ∀ {x : Str} {c : Value} {np : Pos}, Names X x c → ∀ {Q : Value → Shared → Prop} {E : Value → Shared → Prop}, Q c { z with heap := g } → wpAny (model X.prog X.w) (X.A.mark (some (.ref a))) (eval (.Name x np) X.env) Q E { z with heap := g } := fun {x c np} hc {Q E} q => by
      rcases hc with ⟨hg, hdb, hm | ⟨hm, hv, hnn⟩⟩
      · exact ld_glob (X := X.suite a ((a, oe) :: (X.pn ++ pins))) IS hg hm q hdb
      · exact ld_blt (X := X.suite a ((a, oe) :: (X.pn ++ pins))) IS hg hm hv q hnn hdb
    have go : ∀ {hds2 : List ExceptHandler} {l2 : List (Value × (Addr → Value → Option Addr → TS))}, HdsAs X n hds2 l2 → wAs X.K i D l2 cls d σ2 G →
        wpAny (model X.prog X.w) X.A (handleBy (.ref a) X.env hds2) (SP X pins D) X.xe { z with heap := g } := by
      intro hds2 l2 hk2
      induction hk2 with
      | nil => exact fun w => w.elim
      | @cons x c ts b₀ suite np pos2 hds3 l3 hc hsu r ih =>
        intro w
        rcases w with ⟨e1, hts⟩ | ⟨e1, w⟩
        all_goals
          have LM := PySem.W.exm_one (M := model X.prog X.w) I4.kIn LT e1
          refine wpAny_handleBy_cons (codeAny_handlers_test (test hc (LM.here ?_))) (fun q => by cases q)
        · have hts := hts a na (by rw [I3.len]; exact (List.getElem?_eq_some_iff.mp hi).1)
          refine codeAny_handlers_suite_as (HandSPX.lands_againZ fl fun k flk upk => ?_)
          have I5 : Inv X pins σ2 G { z with heap := k } := I3.landed nb flk.1 ((up.trans upg).trans upk) os ag
          obtain ⟨oe5, vs5, he5, hz5, hd5⟩ := flk.there
          have IS5 := I5.suite he5 hd5 na nLo nFs
          refine store_ok (X := X.suite a ((a, oe5) :: (X.pn ++ pins))) (v := .ref a) IS5 nd hi loc0 rfl (fun z5 Z5 => ?_) (.inr hk)
          have close_ : ∀ {σ6 : L2.St} {H6 : Hp} {z6 : Shared} {pz : Pos} {Q : Shared → Prop}, Inv (X.suite a ((a, oe5) :: (X.pn ++ pins))) [] σ6 H6 z6 → (∀ z7, Inv X pins (σ6.set i none) H6 z7 → Q z7) →
              wpAny (model X.prog X.w) X.A (do bindName X.env n .none; unbindBehindTheSuite X.env n pz) (fun _ z7 => Q z7) X.xe z6 := fun Z6 hq6 => gone_ok (Z6.unsuite ok0) nd hi hk hq6
          refine wpAny_mono ((hsu a oe5 cls d (X.pn ++ pins) hz5 ⟨_, hd5⟩).run [] z5 _ G _ Z5 hts) (fun f z6 hsp => ?_) (fun _ _ y => y.elim)
          cases f with
          | next =>
            obtain ⟨σ6, H6, Z6, q6⟩ := hsp
            exact close_ Z6 fun _ Z7 => ⟨_, _, Z7, q6⟩
          | brk =>
            obtain ⟨σ6, H6, Z6, q6⟩ := hsp
            exact close_ Z6 fun _ Z7 => ⟨_, _, Z7, q6⟩
          | cont =>
            obtain ⟨σ6, H6, Z6, q6⟩ := hsp
            exact close_ Z6 fun _ Z7 => ⟨_, _, Z7, q6⟩
          | ret u =>
            obtain ⟨v6, σ6, H6, Z6, r6, q6⟩ := hsp
            exact close_ Z6 fun _ Z7 => ⟨_, _, _, Z7, r6, q6⟩
        · show wpAny _ X.A (handleBy (.ref a) X.env hds3) _ _ _
          exact ih w
    exact go hh wish
  · cases f with
    | next =>
      obtain ⟨σ', H', J', q⟩ := fin
      exact wpAny_execs_nil ⟨σ', H', J'.ofTry ok0, q⟩
    | brk =>
      obtain ⟨σ', H', J', q⟩ := fin
      exact ⟨σ', H', J'.ofTry ok0, q⟩
    | cont =>
      obtain ⟨σ', H', J', q⟩ := fin
      exact ⟨σ', H', J'.ofTry ok0, q⟩
    | ret u =>
      obtain ⟨v, σ', H', J', r, q⟩ := fin
      exact ⟨v, σ', H', J'.ofTry ok0, r, q⟩
end
end OB
namespace OB
open PySem PySem.Spec PyProof.Rows L2 LamX
/-! ### what is told, or what is refused -/
abbrev sMet : Stmt := top 38
def told2 (Q : VK) (x : Str) : V → Hp → Prop := fun v G => 2 ≤ sizeLine ∧ ∀ T, G T = none → Q (.ref T) (upd G T (.lst [.str x, v]))
/-- the classes of the errors -/
structure Cls5 where
  S : Addr
  M : Addr
  I : Addr
  D : Addr
inductive Met5 (C : Cls5) : Addr → Str → Str → Prop where
  | s : Met5 C C.S "index" "stays"
  | m : Met5 C C.M "many" "many"
  | i : Met5 C C.I "index" "index"
  | d : Met5 C C.D "day" "day"
def EchM (C : Cls5) (Q : VK) : XK := fun cls d G => ∃ A f x, Met5 C A f x ∧ cls = .ref A ∧ ∃ dd v, d = some dd ∧ G dd = some (.xd [(f, v)]) ∧ told2 Q x v G
def TTMet (C : Cls5) : (XK → Hp → VK → Prop) → Hp → VK → Prop := fun tl H Q => tl (EchM C Q) H fun v G => told2 Q "told" v G
structure MetK (K : PySem.W.Frag) (mg : Str → Option Value) (C : Cls5) : Prop where
  gS : mg "BadStays" = some (.ref C.S)
  xS : XfC K C.S
  fS : PySem.W.findIn K (.ref C.S) "index" = some none
  gM : mg "BadMany" = some (.ref C.M)
  xM : XfC K C.M
  fM : PySem.W.findIn K (.ref C.M) "many" = some none
  gI : mg "BadIndex" = some (.ref C.I)
  xI : XfC K C.I
  fI : PySem.W.findIn K (.ref C.I) "index" = some none
  gD : mg "BadDay" = some (.ref C.D)
  xD : XfC K C.D
  fD : PySem.W.findIn K (.ref C.D) "day" = some none
  eSS : PySem.W.exmOne K (.ref C.S) (.ref C.S) = some true
  eMS : PySem.W.exmOne K (.ref C.M) (.ref C.S) = some false
  eMM : PySem.W.exmOne K (.ref C.M) (.ref C.M) = some true
  eIS : PySem.W.exmOne K (.ref C.I) (.ref C.S) = some false
  eIM : PySem.W.exmOne K (.ref C.I) (.ref C.M) = some false
  eII : PySem.W.exmOne K (.ref C.I) (.ref C.I) = some true
  eDS : PySem.W.exmOne K (.ref C.D) (.ref C.S) = some false
  eDM : PySem.W.exmOne K (.ref C.D) (.ref C.M) = some false
  eDI : PySem.W.exmOne K (.ref C.D) (.ref C.I) = some false
  eDD : PySem.W.exmOne K (.ref C.D) (.ref C.D) = some true
theorem scMet : FnScope ["ask", "e"] ["ask"] (defScope sMet) := ⟨rfl, rfl, rfl, by decide +kernel, rfl, by decide +kernel, by decide +kernel⟩
/-- an error that is told -/
theorem met_bad {C : Cls5} {A : Addr} {f x : Str} {Q : VK} {H : Hp} {v : V} (m : Met5 C A f x) (q : ∀ G T, Same H G → H T = none → G T = some (.lst [.str x, v]) → Q (.ref T) G) : Bad (EchM C Q) H A f v := fun H' d e n g =>
  ⟨A, f, x, m, rfl, d, v, rfl, g, by decide, fun T nT => q _ T (e.trans (Same.new nT)) (e.free nT) upd_same⟩
section
variable {X : Cx}
theorem met_gives {q : Str} {g : Addr} {cdg : Value} {C : Cls5} (M : MetK X.K X.mg C) : GivesTo X ["ask", "e"] "_law_met" (defScope sMet) g cdg (defBody sMet) "ask" q (TTMet C) := by
  intro f c' s H Q tl act hc h
  have nd := scMet.nd
  refine ⟨_, pss_one (ps_try_asN (n := "e") (i := 1) (X := (cxOf C8.CX0 X.prog X.w X.K X.mg X.base ["ask", "e"] "_law_met" (defScope sMet) g cdg X.A X.stack s H C8.E0).nox)
      (tb := fun W D σ G => ∃ Ech : XK, (∀ cls d σ' H', Ech cls d H' → W cls d σ' H') ∧ σ[0]? = some (some (.ref f)) ∧ G c' = some (CodeO c' q) ∧ tl Ech G fun v G2 => told2 D.rt "told" v G2)
      rfl rfl nd rfl rfl (fun W pn xe tk _ => ?_)
      (.cons ⟨by rfl, by decide, .inl M.gS⟩ (fun a oe cls d pn hz hf => pss_one (ps_ret (pe_lst (pa_cons pe_str (pa_cons (pe_xf M.xS M.fS hz hf (pv 1)) pa_nil)))))
      (.cons ⟨by rfl, by decide, .inl M.gM⟩ (fun a oe cls d pn hz hf => pss_one (ps_ret (pe_lst (pa_cons pe_str (pa_cons (pe_xf M.xM M.fM hz hf (pv 1)) pa_nil)))))
      (.cons ⟨by rfl, by decide, .inl M.gI⟩ (fun a oe cls d pn hz hf => pss_one (ps_ret (pe_lst (pa_cons pe_str (pa_cons (pe_xf M.xI M.fI hz hf (pv 1)) pa_nil)))))
      (.cons ⟨by rfl, by decide, .inl M.gD⟩ (fun a oe cls d pn hz hf => pss_one (ps_ret (pe_lst (pa_cons pe_str (pa_cons (pe_xf M.xD M.fD hz hf (pv 1)) pa_nil)))))
      .nil))))), ?_⟩
  · refine ⟨fun pins s' σ H' D I h' => ?_⟩
    obtain ⟨Ech, hW, h1, h2, h3⟩ := h'
    exact (pss_one (ps_ret (pe_lst (pa_cons pe_str (pa_cons (act W pn xe Ech _ _ tk hW) pa_nil))))).run pins s' σ H' D I ⟨h1, h2, h3⟩
  · refine ⟨EchM C Q, fun cls d σ' G z => ?_, rfl, hc, h⟩
    obtain ⟨A, f, x, m, rfl, dd, v, rfl, gd, q1, q2⟩ := z
    cases m with
    | s => exact (.inl ⟨M.eSS, fun a na li => ⟨_, by rw [List.getElem?_set_self li], rfl, rfl, dd, _, v, rfl, gd, by simp [List.lookup], q1, q2⟩⟩)
    | m => exact (.inr ⟨M.eMS, (.inl ⟨M.eMM, fun a na li => ⟨_, by rw [List.getElem?_set_self li], rfl, rfl, dd, _, v, rfl, gd, by simp [List.lookup], q1, q2⟩⟩)⟩)
    | i => exact (.inr ⟨M.eIS, (.inr ⟨M.eIM, (.inl ⟨M.eII, fun a na li => ⟨_, by rw [List.getElem?_set_self li], rfl, rfl, dd, _, v, rfl, gd, by simp [List.lookup], q1, q2⟩⟩)⟩)⟩)
    | d => exact (.inr ⟨M.eDS, (.inr ⟨M.eDM, (.inr ⟨M.eDI, (.inl ⟨M.eDD, fun a na li => ⟨_, by rw [List.getElem?_set_self li], rfl, rfl, dd, _, v, rfl, gd, by simp [List.lookup], q1, q2⟩⟩)⟩)⟩)⟩)
end
end OB
namespace OB
open PySem PySem.Spec PyProof.Rows L2 LamX
/-! ### all but the stream and the tables -/
def ButN (p : Addr) (H H' : Hp) : Prop := ∀ b o, b ≠ p → (∀ ps, o ≠ .tbl ps) → H b = some o → H' b = some o
theorem ButN.refl {p : Addr} {H : Hp} : ButN p H H := fun _ _ _ _ h => h
theorem ButN.trans {p : Addr} {H H1 H2 : Hp} (a : ButN p H H1) (b : ButN p H1 H2) : ButN p H H2 := fun x o n m e => b x o n m (a x o n m e)
theorem ButN.of {p : Addr} {H H' : Hp} (a : ButS p H H') : ButN p H H' := fun x o n _ e => a x o n e
theorem ButN.same {p : Addr} {H H' : Hp} (a : Same H H') : ButN p H H' := fun x o _ _ e => a x o e
theorem ButN.ext {p : Addr} {H H' : Hp} (a : ExtN H H') : ButN p H H' := fun x o _ m e => a x o e m
theorem src_ne {n : Nat} {p c : Addr} {H : Hp} {o : HO} (S : Src n H p) (h : H c = some o) (no : ∀ xs, o ≠ .lst xs) : c ≠ p := fun z => by
  obtain ⟨x, y, w, hp, _⟩ := S
  rw [z, hp] at h
  exact no _ (Option.some.inj h).symm
theorem Tabs.but {n : Nat} {T : List (Addr × Str)} {p : Addr} {H H' : Hp} (t : Tabs T H) (S : Src n H p) (e : ButS p H H') : Tabs T H' := fun y hy => by
  obtain ⟨ps, h1, h2, h3⟩ := t y hy
  refine ⟨ps, e _ _ (src_ne S h1 (by intro xs z; cases z)) h1, h2, fun pos cv hc => ?_⟩
  obtain ⟨c, e1, e2⟩ := h3 pos cv hc
  exact ⟨c, e1, e _ _ (src_ne S e2 (by intro xs z; unfold CodeO at z; cases z)) e2⟩
theorem Tabs.same {T : List (Addr × Str)} {H H' : Hp} (t : Tabs T H) (e : Same H H') : Tabs T H' := t.ext e
theorem Src.ext {n : Nat} {p : Addr} {H H' : Hp} (S : Src n H p) (e : ExtN H H') : Src n H' p := by
  obtain ⟨a, b, c, hp, r⟩ := S
  exact ⟨a, b, c, e _ _ hp (by intro ps z; cases z), r⟩
theorem mkX_tbl {tp : Bool} {xs : List V} (ps : Array Value) : mkX tp xs ≠ .tbl ps := by
  cases tp <;> (intro z; cases z)
theorem ExtN.same {H H1 H2 : Hp} (a : ExtN H H1) (b : Same H1 H2) : ExtN H H2 := a.trans (ExtN.of b)
/-- an object that is no table stays -/
theorem ExtN.any {K : PySem.W.Frag} {H H' : Hp} {v : V} {k : Kd} (e : ExtN H H') (h : Any K H v k) : Any K H' v k := by
  cases h with
  | non => exact .non
  | bl b => exact .bl b
  | int i => exact .int i
  | str h => exact .str h
  | lst q => exact .lst (e _ _ q (by intro ps z; cases z))
  | tup q => exact .tup (e _ _ q (by intro ps z; cases z))
  | dct q => exact .dct (e _ _ q (by intro ps z; cases z))
  | fn q c => exact .fn q c
  | ins q o => exact .ins (e _ _ q (by intro ps z; cases z)) o
theorem Thing.ext {K : PySem.W.Frag} {H H' : Hp} {v : V} {r : Option S3} (h : Thing K H v r) (e : ExtN H H') : Thing K H' v r := by
  cases h with
  | seq h a l => exact .seq (e _ _ h mkX_tbl) (fun x m => (a x m).elim fun k q => ⟨k, ExtN.any e q⟩) l
  | no h f => exact .no (ExtN.any e h) f
theorem ArgS.ext {K : PySem.W.Frag} {H H' : Hp} {v : V} {r : Nat ⊕ List S3} (h : ArgS K H v r) (e : ExtN H H') : ArgS K H' v r := by
  cases r with
  | inl i =>
    rcases h with ⟨h0, k, h1, h2⟩ | ⟨a, tp, xs, rs, h1, h2, h3, h4, h5⟩
    · exact .inl ⟨h0, k, ExtN.any e h1, h2⟩
    · exact .inr ⟨a, tp, xs, rs, h1, e _ _ h2 mkX_tbl, Paired.imp (fun _ _ z => Thing.ext z e) h3, h4, h5⟩
  | inr ss =>
    obtain ⟨a, tp, xs, h1, h2, h3, h4⟩ := h
    exact ⟨a, tp, xs, h1, e _ _ h2 mkX_tbl, Paired.imp (fun _ _ z => Thing.ext z e) h3, h4⟩
theorem LRowP.bn {p : Addr} {H H' : Hp} {a : Addr} {ss : List S3} (h : LRowP p H a ss) (b : ButN p H H') : LRowP p H' a ss := by
  obtain ⟨n, tp, vs, h1, h2⟩ := h
  refine ⟨n, tp, vs, b _ _ n mkX_tbl h1, Paired.imp (fun v s z => ?_) h2⟩
  obtain ⟨tp, t, e, n, h⟩ := z
  exact ⟨tp, t, e, n, b _ _ n mkX_tbl h⟩
theorem Row.bn {n : Nat} {p : Addr} {H H' : Hp} {a : Addr} {ss : List S3} (h : Row H a ss) (S : Src n H p) (np : a ≠ p) (b : ButN p H H') : Row H' a ss := by
  obtain ⟨vs, h1, h2⟩ := h
  refine ⟨vs, b _ _ np (by intro ps z; cases z) h1, Paired.imp (fun v s z => ?_) h2⟩
  obtain ⟨t, e, h⟩ := z
  exact ⟨t, e, b _ _ (src_ne S h (by intro xs z; cases z)) (by intro ps z; cases z) h⟩
/-- what stands while the law looks -/
structure LS (TT : List (Addr × Str)) (p : Addr) (n : Nat) (H G : Hp) : Prop where
  but : ButN p H G
  src : Src n G p
  tabs : Tabs TT G
section
variable {TT : List (Addr × Str)} {p : Addr} {n m : Nat} {H G G' : Hp}
theorem LS.start (S : Src n H p) (t : Tabs TT H) : LS TT p n H H := ⟨ButN.refl, S, t⟩
theorem LS.ext (R : LS TT p n H G) (e : ExtN G G') (t : Tabs TT G') : LS TT p n H G' := ⟨R.but.trans (ButN.ext e), R.src.ext e, t⟩
theorem LS.same (R : LS TT p n H G) (e : Same G G') : LS TT p n H G' := R.ext (ExtN.of e) (Tabs.same R.tabs e)
theorem LS.bs (R : LS TT p n H G) (e : ButS p G G') (S : Src m G' p) : LS TT p m H G' := ⟨R.but.trans (ButN.of e), S, Tabs.but R.tabs R.src e⟩
theorem LS.mono (R : LS TT p n H G) (l : n ≤ m) : LS TT p m H G := ⟨R.but, R.src.mono l, R.tabs⟩
end
/-! ### a call all by keywords -/
theorem vals_rev : ∀ {zs : List V} {ws : List Value}, Vals zs ws → Vals zs.reverse ws.reverse
  | _, _, .nil => .nil
  | _, _, .cons a r => by
    rw [List.reverse_cons, List.reverse_cons]
    exact (vals_rev r).append (.cons a .nil)
theorem kbn_rev {K : PySem.W.Frag} {fd : FuncData} {ps ks : List Str} (h : ∀ ws : List Value, ws.length = ks.length → bindArgs fd ⟨[], ks.zip ws⟩ = pure (ps.zip ws.reverse)) : KBn K fd ps 0 ks (fun _ ws => ws.reverse) (fun _ zs => zs.reverse) :=
  { to := fun s us ws _ l1 l2 => by
      have e : us = [] := List.eq_nil_of_length_eq_zero l1
      subst e
      exact .of_eq (h ws l2)
    rel := fun _ r => vals_rev r }
theorem Fun.rev {K : PySem.W.Frag} {x qual : Str} {st : Stmt} {f : Addr} {fd : FuncData} {ps ks : List Str} (F : Fun K x qual st f fd)
    (h : ∀ (kV doc pm : Value) (an : Option Addr) (cdv ct : Value) (ws : List Value), ws.length = ks.length → bindArgs (PySem.W.fnOf x qual (defArgs st) (defBody st) (defScope st) .none kV doc pm an cdv ct) ⟨[], ks.zip ws⟩ = pure (ps.zip ws.reverse)) : KBn K fd ps 0 ks (fun _ ws => ws.reverse) (fun _ zs => zs.reverse) := by
  obtain ⟨oc, od, kV, doc, pm, an, cdv, ct, osl, rfl, lk, hcd⟩ := F.ex
  exact kbn_rev (h kV doc pm an cdv ct)
section
variable {X : Cx} {CX : CXT} {k : Nat} {f : Addr} {fd : FuncData} {ps ks : List Str} {sp : Sp} {E : XK} {x : Str} {p pos : Pos} {kws : List Keyword} {tk : TA} {g : List Value → List Value → List Value} {gV : List V → List V → List V}
/-- f(k = v, ..) -/
theorem pe_callKO (F : FnOk X.prog X.w X.K X.mg X.base CX k f fd ps sp) (hr : Room k X.A) (hg : Gl X x) (hm : X.mg x = some (.ref f)) (hk : PySem.W.keepIn X.K (.ref f) = true) (hb : KBn X.K fd ps 0 ks g gV) (hx : Passes CX X E)
    (hkw : PK X kws tk) (hall : (backToKw pos (keywordEach kws X.env)).all (·.1.isSome) = true := by rfl) (hks : (backToKw pos (keywordEach kws X.env)).filterMap (·.1) = ks := by rfl)
    (hdb : (x == ("__debug__" : Str)) = false := by decide) (hpl : ((backTo pos (starEach [] X.env)).any (·.1) || (backToKw pos (keywordEach kws X.env)).any (·.1.isNone)) = false := by rfl) :
    PE X (.Call (.Name x p) [] kws pos) (tCallN 0 ks.length sp gV E tNil tk) := by
  refine ⟨fun pins s σ H Q I h => ?_⟩
  refine wpAny_Call_Name_kw (ld_glob I hg hm ?_ hdb)
  refine PySem.W.callWith_KW0 (h₀ := X.base) I.ok.mod.kin hk hall ?_ hpl
  refine thn (hkw.run pos pins s σ H _ I h) fun ws s2 ⟨zs, H2, I2, rz, l1, l2, q2⟩ => ⟨I2.kIn, ?_⟩
  rw [hks]
  exact run_fnN (us := []) (vs := []) F hr hb hx I2 .nil rz l1 l2 q2
end
end OB
namespace OB
open PySem PySem.Spec PyProof.Rows L2 LamX
def noE : XK := fun _ _ _ => False
theorem pass_no {X : Cx} : Passes (L2.CX X.prog X.w) X noE := fun _ _ _ _ _ _ _ h => by
  obtain ⟨_, _, _, _, _, _, _, _, _, _, _, _, z⟩ := h
  exact z.elim
/-- a def whose code object is told -/
structure FunC (K : PySem.W.Frag) (x qual : Str) (st : Stmt) (f : Addr) (fd : FuncData) (c : Addr) : Prop where
  ex : ∃ (oc : Value) (od : Option Addr) (kV doc pm : Value) (an : Option Addr) (ct : Value) (osl : Array (Option Value)),
    fd = PySem.W.fnOf x qual (defArgs st) (defBody st) (defScope st) .none kV doc pm an (.ref c) ct ∧ K.lookup f = some ⟨oc, od, .func fd, osl⟩ ∧ PySem.W.codeIn K (.ref c) qual = true
  kp : PySem.W.keepIn K (.ref f) = true
theorem FunC.f {K : PySem.W.Frag} {x qual : Str} {st : Stmt} {f : Addr} {fd : FuncData} {c : Addr} (F : FunC K x qual st f fd c) : Fun K x qual st f fd := by
  obtain ⟨oc, od, kV, doc, pm, an, ct, osl, e, l, h⟩ := F.ex
  exact ⟨⟨oc, od, kV, doc, pm, an, _, ct, osl, e, l, h⟩, F.kp⟩
section
variable {P : Program} {w : World} {K : PySem.W.Frag} {mg : Str → Option Value} {base : Heap}
theorem FunC.ok {x qual : Str} {st : Stmt} {f c : Addr} {fd : FuncData} {N ps : List Str} {k : Nat} {sp : Sp} (F : FunC K x qual st f fd c) (S : FnScope N ps (defScope st)) (len : ∀ vs H Q E, sp vs H Q E → vs.length = ps.length)
    (hbody : ∀ (A : Around) (outer : List Env) (s : Shared) (H : Hp) (vs : List V) (Q : VK) (E : XK), Room k (A.deeper (envOfC qual (defScope st) s.heap.objs.size f (.ref c))) → sp vs H Q E →
      ∃ t, PSs (cxOf CX0 P w K mg base N qual (defScope st) f (.ref c) A outer s H E).nox (defBody st) t ∧ t { nx := fun _ H' => Q .non H', rt := Q } (start N vs) H) : FnOk P w K mg base CX0 (k + 1) f fd ps sp := by
  obtain ⟨oc, od, kV, doc, pm, an, ct, osl, rfl, lk, hcd⟩ := F.ex
  refine fn_of lk hcd S len fun A outer s H vs Q E hr hsp => ?_
  obtain ⟨t, h, q⟩ := hbody A outer s H vs Q E hr hsp
  exact ⟨t, h.nox, q⟩
end
theorem seq_mid {a b : TS} {D : Ends} {σ : L2.St} {H : Hp} (Cond : L2.St → Hp → Prop) (h1 : ∀ K, (∀ σ' G', Cond σ' G' → K σ' G') → a { D with nx := K } σ H) (h2 : ∀ σ' G', Cond σ' G' → b D σ' G') : tSeq a b D σ H := h1 _ h2
theorem pair_same {K : PySem.W.Frag} {G : Hp} : ∀ {us vs : List V} {ss : List S3}, Paired (St G) us ss → Paired (St G) vs ss → Paired (SameV K 2 G) us vs
  | _, _, _, .nil, .nil => .nil
  | _, _, _, .cons ⟨t, e, h⟩ r, .cons ⟨t2, e2, h2⟩ r2 => by
    subst e e2
    exact .cons (SameW.seq (tp := true) h h2 (by simp) (.cons (.int _) (.cons (.int _) (.cons (.int _) .nil)))) (pair_same r r2)
theorem row_same {K : PySem.W.Frag} {G : Hp} {a b : Addr} {ss : List S3} (ha : Row G a ss) (hb : Row G b ss) (l : ss.length < 10000000) : SameV K 3 G (.ref a) (.ref b) := by
  obtain ⟨us, hu, pu⟩ := ha
  obtain ⟨vs, hv, pv⟩ := hb
  exact SameW.seq (tp := false) hu hv (by have := pu.length; omega) (pair_same pu pv)
section
variable {P : Program} {w : World} {K : PySem.W.Frag} {mg : Str → Option Value} {base : Heap}
end
end OB
namespace OB
open PySem PySem.Spec PyProof.Rows L2 LamX
/-- nothing that a number could be: it stays as it is, and is itself -/
def OddV (K : PySem.W.Frag) (p : Addr) (H : Hp) (x : V) : Prop := numV x = false ∧ (∀ n, ixV n x = false) ∧ ∀ H', ButN p H H' → (∃ k, Any K H' x k) ∧ SameV K 2 H' x x
theorem OddV.bn {K : PySem.W.Frag} {p : Addr} {H H' : Hp} {x : V} (h : OddV K p H x) (b : ButN p H H') : OddV K p H' x := ⟨h.1, h.2.1, fun G c => h.2.2 G (b.trans c)⟩
theorem OddV.ix {K : PySem.W.Frag} {p : Addr} {H : Hp} {i n : Nat} (h : OddV K p H (.int (i : Nat))) (l : i < n) : False := by
  have z : (decide ((0 : Int) ≤ (i : Int)) && decide ((i : Int) < (n : Int))) = false := h.2.1 n
  rw [decide_eq_true (by omega), decide_eq_true (by omega)] at z
  cases z
theorem OddV.num {K : PySem.W.Frag} {p : Addr} {H : Hp} {i : Int} (h : OddV K p H (.int i)) (l : 0 ≤ i) : False := by
  have z : decide (0 ≤ i) = false := h.1
  rw [decide_eq_true l] at z
  cases z
theorem Any.bn {K : PySem.W.Frag} {n n' : Nat} {p : Addr} {H H' : Hp} {v : V} {k : Kd} (h : Any K H v k) (S : Src n H p) (S' : Src n' H' p) (b : ButN p H H') : Any K H' v k := by
  cases h with
  | non => exact .non
  | bl b => exact .bl b
  | int i => exact .int i
  | str h => exact .str h
  | @lst a xs q =>
    by_cases e : a = p
    · obtain ⟨x, y, z, hp, _⟩ := S'
      rw [e]
      exact .lst hp
    · exact .lst (b _ _ e (by intro ps z; cases z) q)
  | tup q => exact .tup (b _ _ (src_ne S q (by intro xs z; cases z)) (by intro ps z; cases z) q)
  | dct q => exact .dct (b _ _ (src_ne S q (by intro xs z; cases z)) (by intro ps z; cases z) q)
  | fn q c => exact .fn q c
  | ins q o => exact .ins (b _ _ (src_ne S q (by intro xs z; cases z)) (by intro ps z; cases z) q) o
theorem Thing.bn {K : PySem.W.Frag} {n n' : Nat} {p : Addr} {H H' : Hp} {v : V} {r : Option S3} (h : Thing K H v r) (S : Src n H p) (S' : Src n' H' p) (b : ButN p H H') (np : v ≠ .ref p) : Thing K H' v r := by
  cases h with
  | seq h a l => exact .seq (b _ _ (fun z => np (by rw [z])) mkX_tbl h) (fun x m => (a x m).elim fun k q => ⟨k, q.bn S S' b⟩) l
  | no h f => exact .no (h.bn S S' b) f
/-- what was answered, as a list of two -/
def LRes (G : Hp) (r : V) (y : Str × V) : Prop := ∃ T : Addr, r = .ref T ∧ G T = some (.lst [.str y.1, y.2])
theorem LRes.ext {G G' : Hp} {r : V} {y : Str × V} (h : LRes G r y) (e : ExtN G G') : LRes G' r y := by
  obtain ⟨T, e1, h⟩ := h
  exact ⟨T, e1, e _ _ h (by intro ps z; cases z)⟩
theorem Tabs.putL {T : List (Addr × Str)} {H : Hp} {l : Addr} {xs ys : List V} (t : Tabs T H) (hl : H l = some (.lst xs)) : Tabs T (upd H l (.lst ys)) := fun y hy => by
  obtain ⟨ps, h1, h2, h3⟩ := t y hy
  refine ⟨ps, by rw [upd_ne (ne_of h1 hl (by intro z; cases z))]; exact h1, h2, fun pos cv hc => ?_⟩
  obtain ⟨c, e1, e2⟩ := h3 pos cv hc
  exact ⟨c, e1, by rw [upd_ne (ne_of e2 hl (by intro z; unfold CodeO at z; cases z))]; exact e2⟩
theorem res_put {G : Hp} {F : Addr} {u : HO} : ∀ {rs : List V} {ws : List (Str × V)}, Paired (LRes G) rs ws → (∀ r ∈ rs, r ≠ .ref F) → Paired (LRes (upd G F u)) rs ws
  | _, _, .nil, _ => .nil
  | _, _, .cons ⟨T, e, h⟩ r, n => by
    subst e
    have TF : T ≠ F := fun z => n _ (List.mem_cons_self ..) (by rw [z])
    exact .cons ⟨T, rfl, by rw [upd_ne TF]; exact h⟩ (res_put r fun x m => n x (List.mem_cons_of_mem _ m))
/-- the list of answers, made since H0 -/
structure FS (TT : List (Addr × Str)) (p : Addr) (n : Nat) (H0 : Hp) (F : Addr) (rs : List V) (ws : List (Str × V)) (G : Hp) : Prop where
  s : LS TT p n H0 G
  new : ∀ o, (∀ ps, o ≠ .tbl ps) → H0 F ≠ some o
  np : F ≠ p
  at_ : G F = some (.lst rs)
  res : Paired (LRes G) rs ws
  notF : ∀ r ∈ rs, r ≠ .ref F
section
variable {TT : List (Addr × Str)} {p F : Addr} {n : Nat} {H0 G H3 G4 : Hp} {rs : List V} {ws : List (Str × V)}
theorem FS.ext (h : FS TT p n H0 F rs ws G) (e : ExtN G H3) (t : Tabs TT H3) : FS TT p n H0 F rs ws H3 :=
  ⟨h.s.ext e t, h.new, h.np, e _ _ h.at_ (by intro ps z; cases z), Paired.imp (fun _ _ z => z.ext e) h.res, h.notF⟩
theorem FS.same (h : FS TT p n H0 F rs ws G) (e : Same G H3) : FS TT p n H0 F rs ws H3 := h.ext (ExtN.of e) (Tabs.same h.s.tabs e)
/-- the first answer -/
theorem FS.first {T : Addr} {x : Str} {v : V} (h : LS TT p n H0 G) (e : ExtN G H3) (t : Tabs TT H3) (e4 : Same H3 G4) (gT : G4 T = some (.lst [.str x, v])) (nF : G4 F = none) : FS TT p n H0 F [.ref T] [(x, v)] (upd G4 F (.lst [.ref T])) := by
  have h4 := (h.ext e t).same e4
  have np : F ≠ p := h4.src.ne nF
  refine ⟨h4.same (Same.new nF), fun o mo eo => ?_, np, upd_same, .cons ⟨T, rfl, Same.new nF _ _ gT⟩ .nil, fun r m => ?_⟩
  · have := h4.but F o np mo eo
    rw [nF] at this
    cases this
  · rw [List.mem_singleton.mp m]
    intro z
    have := V.ref.inj z
    rw [this, nF] at gT
    cases gT
/-- one more answer -/
theorem FS.more {T : Addr} {x : Str} {v : V} (h : FS TT p n H0 F rs ws G) (e : ExtN G H3) (t : Tabs TT H3) (e4 : Same H3 G4) (nT : H3 T = none) (gT : G4 T = some (.lst [.str x, v])) :
    G4 F = some (.lst rs) ∧ FS TT p n H0 F (rs ++ [.ref T]) (ws ++ [(x, v)]) (upd G4 F (.lst (rs ++ [.ref T]))) := by
  have h3 := h.ext e t
  have h4 := h3.same e4
  have TF : T ≠ F := fun z => by
    have := h3.at_
    rw [← z, nT] at this
    cases this
  refine ⟨h4.at_, ⟨⟨fun b o nb m eb => ?_, h4.s.src.put h.np, Tabs.putL h4.s.tabs h4.at_⟩, h.new, h.np, upd_same, ?_, fun r m => ?_⟩⟩
  · rw [upd_ne (fun z => h.new o m (by rw [← z]; exact eb))]
    exact h4.s.but b o nb m eb
  · exact Paired.app (res_put h4.res h.notF) (.cons ⟨T, rfl, by rw [upd_ne TF]; exact gT⟩ .nil)
  · rcases List.mem_append.mp m with z | z
    · exact h.notF r z
    · rw [List.mem_singleton.mp z]
      intro y
      exact TF (V.ref.inj y)
end
theorem wrong_arg {K : PySem.W.Frag} {G : Hp} {W : Addr} {us : List V} {ss : List S3} {o : V} {m : Nat} (pu : Paired (St G) us ss) (g : Good ss) (l : us.length ≤ 60) (ho : Thing K G o none) (hm : m ≤ us.length) (hW : G W = some (.lst (us.take m ++ [o, .non] ++ us.drop m))) : ArgS K G (.ref W) (.inl m) := by
  have things : Paired (Thing K G) us (ss.map some) := by
    have := (show LRow G W ss → True from fun _ => trivial)
    refine Paired.map ?_
    clear hW this l hm
    induction pu with
    | nil => exact .nil
    | cons r t ih => exact .cons (LSt.thing r.l (g _ (List.mem_cons_self ..))) (ih fun s m => g s (List.mem_cons_of_mem _ m))
  refine .inr ⟨W, false, _, (ss.map some).take m ++ [none, none] ++ (ss.map some).drop m, rfl, hW, Paired.app (Paired.app (Paired.take m things) (.cons ho (.cons (.no .non rfl) .nil))) (Paired.drop m things), ?_, ?_⟩
  · simp only [List.length_append, List.length_take, List.length_drop, List.length_cons, List.length_nil]
    omega
  · have ll := pu.length
    rw [List.append_assoc, List.findIdx?_append]
    have e1 : ((ss.map some).take m).findIdx? (fun r => r.isNone) = none := by
      rw [List.findIdx?_eq_none_iff]
      intro x mx
      obtain ⟨s, _, rfl⟩ := List.mem_map.mp (List.mem_of_mem_take mx)
      rfl
    rw [e1]
    have e2 : ((ss.map some).take m).length = m := by
      rw [List.length_take, List.length_map]
      omega
    rw [e2]
    simp [List.findIdx?_cons]
theorem pairs_same {K : PySem.W.Frag} {G : Hp} : ∀ {rs ds : List V} {ws : List (Str × V)}, Paired (LRes G) rs ws → Paired (LRes G) ds ws → (∀ y ∈ ws, y.1.length ≤ 100 ∧ SameV K 2 G y.2 y.2) → Paired (SameV K 3 G) rs ds
  | _, _, _, .nil, .nil, _ => .nil
  | _, _, _, .cons ⟨T, e, h⟩ r, .cons ⟨T2, e2, h2⟩ r2, hw => by
    subst e e2
    obtain ⟨w1, w2⟩ := hw _ (List.mem_cons_self ..)
    exact .cons (SameW.seq (tp := false) h h2 (by simp) (.cons (SameW.str w1) (.cons w2 .nil))) (pairs_same r r2 fun y m => hw y (List.mem_cons_of_mem _ m))
section
variable {P : Program} {w : World} {K : PySem.W.Frag} {mg : Str → Option Value} {base : Heap}
end
end OB
namespace OB
open PySem PySem.Spec PyProof.Rows L2 LamX
/-! ### how stays are shown -/
def topD (tp : Bool) (ds : List PyData) : PyData := match tp with
  | true => .tuple ds
  | false => .list ds
abbrev B3 : Type := Bool × S3
def stD (y : B3) : PyData := topD y.1 [.int y.2.1, .int y.2.2.1, .int y.2.2.2]
def rowD (tp : Bool) (bs : List B3) : PyData := topD tp (bs.map stD)
def LD (p : Addr) (H : Hp) (v : V) (y : B3) : Prop := ∃ t : Addr, v = .ref t ∧ t ≠ p ∧ H t = some (mkX y.1 [.int y.2.1, .int y.2.2.1, .int y.2.2.2])
/-- at a such a list or tuple, kinds and all -/
def ShowR (p : Addr) (H : Hp) (a : Addr) (tp : Bool) (bs : List B3) : Prop := a ≠ p ∧ ∃ vs, H a = some (mkX tp vs) ∧ Paired (LD p H) vs bs
theorem ShowR.bn {p : Addr} {H H' : Hp} {a : Addr} {tp : Bool} {bs : List B3} (h : ShowR p H a tp bs) (b : ButN p H H') : ShowR p H' a tp bs := by
  obtain ⟨n, vs, h1, h2⟩ := h
  refine ⟨n, vs, b _ _ n mkX_tbl h1, Paired.imp (fun v y z => ?_) h2⟩
  obtain ⟨t, e, n, h⟩ := z
  exact ⟨t, e, n, b _ _ n mkX_tbl h⟩
theorem ld_of {p : Addr} {H : Hp} : ∀ {vs : List V} {ss : List S3}, Paired (LStP p H) vs ss → ∃ bs, Paired (LD p H) vs bs ∧ bs.map Prod.snd = ss
  | _, _, .nil => ⟨[], .nil, rfl⟩
  | _, _, .cons ⟨tp, t, e, n, h⟩ r => by
    obtain ⟨bs, h1, h2⟩ := ld_of r
    exact ⟨(tp, _) :: bs, .cons ⟨t, e, n, h⟩ h1, by rw [List.map_cons, h2]⟩
theorem LRowP.show_ {p : Addr} {H : Hp} {a : Addr} {ss : List S3} (h : LRowP p H a ss) : ∃ tp bs, ShowR p H a tp bs ∧ bs.map Prod.snd = ss := by
  obtain ⟨n, tp, vs, h1, h2⟩ := h
  obtain ⟨bs, h3, h4⟩ := ld_of h2
  exact ⟨tp, bs, ⟨n, vs, h1, h3⟩, h4⟩
def SmallI (i : Int) : Prop := i.natAbs ≤ 10 ^ 15
theorem show_int {i : Int} (h : SmallI i) : (PyData.int i).showable = true ∧ (PyData.int i).shown.length ≤ 2000 := by
  have lg : i.natAbs.log2 < 1920 := by
    by_cases z : i.natAbs = 0
    · rw [z]
      decide
    · refine (Nat.log2_lt z).mpr (Nat.lt_of_le_of_lt h ?_)
      exact Nat.lt_of_lt_of_le (show 10 ^ 15 < 2 ^ 64 by decide) (Nat.pow_le_pow_right (by decide) (by decide))
  exact ⟨decide_eq_true lg, Nat.le_trans (int_text_len_1921 lg) (by decide)⟩
theorem from_len (acc : Str) (ts : List Str) : (textFrom 1 acc ts).length = acc.length + piled ts := textFrom_length_pos ts 1 acc (Nat.succ_pos 0)
theorem list_le : ∀ ts : List Str, (listText ts).length ≤ piled ts + 2
  | [] => by decide
  | t :: r => by
    have z1 : (("[" : String) : Str).length = 1 := rfl
    have z0 : (("" : String) : Str).length = 0 := rfl
    have z2 : (("]" : String) : Str).length = 1 := rfl
    show (textFrom 1 (("[" : Str) ++ (("" : String) : Str) ++ t) r ++ (("]" : String) : Str)).length ≤ _
    rw [strLen_append, from_len, strLen_append, strLen_append, piled_cons, z1, z0, z2]
    omega
theorem tuple_le (ts : List Str) : (tupleText ts).length ≤ piled ts + 4 := by
  have z1 : (("(" : String) : Str).length = 1 := rfl
  have z2 : (((if ts.length == 1 then ",)" else ")" : String) : Str)).length ≤ 2 := by split <;> decide
  show (((("(" : String) : Str) ++ Str.join ", " ts) ++ ((if ts.length == 1 then ",)" else ")" : String) : Str)).length ≤ _
  rw [strLen_append, strLen_append, z1]
  cases ts with
  | nil =>
    have z3 : (Str.join ", " []).length = 0 := rfl
    omega
  | cons t r =>
    have z3 := join_length_add (t :: r) (by simp)
    omega
theorem piled_le {B : Nat} : ∀ ds : List PyData, (∀ d ∈ ds, d.shown.length ≤ B) → piled (PyData.shownAll ds) ≤ ds.length * (B + 2)
  | [], _ => Nat.zero_le _
  | d :: ds, h => by
    have ih := piled_le ds fun x m => h x (List.mem_cons_of_mem _ m)
    have hd := h d (List.mem_cons_self ..)
    show piled (d.shown :: PyData.shownAll ds) ≤ (ds.length + 1) * (B + 2)
    rw [piled_cons, Nat.add_mul]
    omega
theorem top_le {B : Nat} {tp : Bool} {ds : List PyData} (h : ∀ d ∈ ds, d.shown.length ≤ B) : (topD tp ds).shown.length ≤ ds.length * (B + 2) + 4 := by
  have p1 := piled_le ds h
  cases tp with
  | true =>
    show (tupleText (PyData.shownAll ds)).length ≤ _
    have := tuple_le (PyData.shownAll ds)
    omega
  | false =>
    show (listText (PyData.shownAll ds)).length ≤ _
    have := list_le (PyData.shownAll ds)
    omega
theorem top_sh {tp : Bool} {ds : List PyData} (h : ∀ d ∈ ds, d.showable = true) : (topD tp ds).showable = true := by
  have sh : ∀ l : List PyData, (∀ d ∈ l, d.showable = true) → PyData.showableAll l = true := fun l => by
    induction l with
    | nil => exact fun _ => rfl
    | cons x xs ih =>
      intro hx
      show (x.showable && PyData.showableAll xs) = true
      rw [hx x (List.mem_cons_self ..), ih fun y m => hx y (List.mem_cons_of_mem _ m)]
      rfl
  cases tp with
  | true => exact sh ds h
  | false => exact sh ds h
theorem top_dp {n : Nat} {tp : Bool} {ds : List PyData} (h : ∀ d ∈ ds, d.depth ≤ n) : (topD tp ds).depth ≤ n + 1 := by
  have dp : ∀ l : List PyData, (∀ d ∈ l, d.depth ≤ n) → PyData.depthAll l ≤ n := fun l => by
    induction l with
    | nil => exact fun _ => Nat.zero_le _
    | cons x xs ih =>
      intro hx
      show max x.depth (PyData.depthAll xs) ≤ n
      exact Nat.max_le.mpr ⟨hx x (List.mem_cons_self ..), ih fun y m => hx y (List.mem_cons_of_mem _ m)⟩
  have := dp ds h
  cases tp with
  | true =>
    show PyData.depthAll ds + 1 ≤ n + 1
    omega
  | false =>
    show PyData.depthAll ds + 1 ≤ n + 1
    omega
def SmallB (y : B3) : Prop := SmallI y.2.1 ∧ SmallI y.2.2.1 ∧ SmallI y.2.2.2
theorem st_shown {y : B3} (h : SmallB y) : (stD y).showable = true ∧ (stD y).depth ≤ 1 ∧ (stD y).shown.length ≤ 6010 := by
  obtain ⟨h1, h2, h3⟩ := h
  have a1 := show_int h1
  have a2 := show_int h2
  have a3 := show_int h3
  have three : ∀ {P : PyData → Prop}, P (.int y.2.1) → P (.int y.2.2.1) → P (.int y.2.2.2) → ∀ d ∈ [PyData.int y.2.1, .int y.2.2.1, .int y.2.2.2], P d := fun p1 p2 p3 d m => by
    rcases List.mem_cons.mp m with e | m
    · rw [e]; exact p1
    rcases List.mem_cons.mp m with e | m
    · rw [e]; exact p2
    rcases List.mem_cons.mp m with e | m
    · rw [e]; exact p3
    · cases m
  refine ⟨top_sh (three a1.1 a2.1 a3.1), top_dp (n := 0) (three (Nat.le_refl _) (Nat.le_refl _) (Nat.le_refl _)), ?_⟩
  have := top_le (tp := y.1) (B := 2000) (three (P := fun d => d.shown.length ≤ 2000) a1.2 a2.2 a3.2)
  exact this
theorem row_shown {tp : Bool} {bs : List B3} (h : ∀ y ∈ bs, SmallB y) (l : bs.length ≤ 60) : (rowD tp bs).showable = true ∧ (rowD tp bs).depth ≤ 2 ∧ (rowD tp bs).shown.length ≤ sizeLine := by
  have all : ∀ d ∈ bs.map stD, d.showable = true ∧ d.depth ≤ 1 ∧ d.shown.length ≤ 6010 := fun d m => by
    obtain ⟨y, my, rfl⟩ := List.mem_map.mp m
    exact st_shown (h y my)
  refine ⟨top_sh fun d m => (all d m).1, top_dp fun d m => (all d m).2.1, ?_⟩
  have t := top_le (tp := tp) (B := 6010) fun d m => (all d m).2.2
  rw [List.length_map] at t
  have : bs.length * (6010 + 2) ≤ 60 * 6012 := Nat.mul_le_mul l (Nat.le_refl _)
  rw [sizeLine_eq]
  show (topD tp (bs.map stD)).shown.length ≤ _
  omega
section
variable {P : Program} {w : World} {H : Hp} {h : Heap}
theorem seq_reads {tp : Bool} {a : Addr} {ys : List V} {ds : List PyData} (ok : HOk P w H h) (ns : H sysModules = none) (ha : H a = some (mkX tp ys)) (items : ∀ us : List Value, Vals ys us → ∃ as, ReadsAll h us ds as ∧ sysModules ∉ as) : ∃ as, Reads h (.ref a) (topD tp ds) as ∧ sysModules ∉ as := by
  cases tp with
  | true =>
    obtain ⟨_, its, rv, o2, ho, hc, n, hd⟩ := (show ObjOk P w H h a (.tup ys) from ok a _ ha)
    obtain ⟨as, q1, n1⟩ := items _ rv
    exact ⟨_, .tuple (vs := its.toArray) ho hc hd q1, n1⟩
  | false =>
    obtain ⟨_, its, n, rv, ho⟩ := (show ObjOk P w H h a (.lst ys) from ok a _ ha)
    obtain ⟨as, q1, n1⟩ := items _ rv
    refine ⟨_, .list (vs := its.toArray) ho rfl rfl q1, fun m => ?_⟩
    rcases List.mem_cons.mp m with z | z
    · rw [z, ha] at ns
      cases ns
    · exact n1 z
theorem st_reads {p : Addr} {v : V} {y : B3} (ok : HOk P w H h) (ns : H sysModules = none) (l : LD p H v y) {u : Value} (r : RelV v u) : ∃ as, Reads h u (stD y) as ∧ sysModules ∉ as := by
  obtain ⟨t, rfl, _, ht⟩ := l
  obtain rfl : u = .ref t := r
  refine seq_reads ok ns ht fun us rv => ?_
  cases rv with
  | cons r1 rv =>
    cases rv with
    | cons r2 rv =>
      cases rv with
      | cons r3 rv =>
        cases rv
        obtain ⟨t1, rfl⟩ := r1
        obtain ⟨t2, rfl⟩ := r2
        obtain ⟨t3, rfl⟩ := r3
        exact ⟨_, .cons (as := []) (.int _ t1) (.cons (as := []) (.int _ t2) (.cons (as := []) (.int _ t3) .nil)), by simp⟩
theorem sts_reads {p : Addr} (ok : HOk P w H h) (ns : H sysModules = none) : ∀ {vs : List V} {bs : List B3} {us : List Value}, Paired (LD p H) vs bs → Vals vs us → ∃ as, ReadsAll h us (bs.map stD) as ∧ sysModules ∉ as
  | _, _, _, .nil, r => by
    cases r
    exact ⟨_, .nil, by simp⟩
  | _, _, _, .cons t ts, r => by
    cases r with
    | cons r1 r2 =>
      obtain ⟨as, q1, n1⟩ := st_reads ok ns t r1
      obtain ⟨bs, q2, n2⟩ := sts_reads ok ns ts r2
      exact ⟨_, .cons q1 q2, fun m => (List.mem_append.mp m).elim n1 n2⟩
end
/-- repr of stays, where no repr is under way -/
def rShow : List V → Hp → VK → Prop := fun xs H Q => ∃ (p a : Addr) (tp : Bool) (bs : List B3), xs = [.ref a] ∧ ShowR p H a tp bs ∧ (∀ y ∈ bs, SmallB y) ∧ bs.length ≤ 60 ∧ Q (.str (rowD tp bs).shown) H
theorem call_show {X : Cx} (hg : X.A.guards = some []) (hu : X.A.units + 64 < cLine) (hs : ∃ o, X.base.get? sysModules = some o) : CallR X (.builtin "repr") rShow := by
  intro pins s σ H xs us Q I r h
  obtain ⟨p, a, tp, bs, rfl, ⟨_, vs, ha, pd⟩, sm, l, q⟩ := h
  obtain ⟨u, rfl, rx⟩ := vals1 r
  cases rx
  obtain ⟨o, hs⟩ := hs
  have ns : H sysModules = none := (I.bs sysModules o hs).2
  obtain ⟨t1, t2, t3⟩ := row_shown (tp := tp) sm l
  obtain ⟨as, rd, nm⟩ := seq_reads I.hok ns ha fun us rv => sts_reads I.hok ns pd rv
  exact repr_of_reads' rd t1 (fun _ => nm) hg (by show X.A.units + ((rowD tp bs).depth + 1) < cLine; omega) (fun _ _ e => e) (fun h' u tk k => ⟨.str (rowD tp bs).shown, H, I.kept (t' := tk) k, ⟨_, rfl⟩, q⟩) t3
end OB
/-! sorted(range(n), key=f): n numbers from 0 on, by a function that keeps the heap. -/
namespace OB
open PySem PySem.Spec PyProof.Rows L2 LamX PySem.W
section
variable {prog : Program} {w : World} {A : Around} {E : Value → Shared → Prop} {s : Shared}
abbrev IsNo (v : Value) (i : Nat) : Prop := ∃ t, v = .int (i : Nat) t
theorem each_no : ∀ (us : List Value) (m : Nat), (∀ j u, us[j]? = some u → IsNo u (m + j)) → EachIs IsNo us ((List.range us.length).map (m + ·))
  | [], _, _ => .nil
  | u :: r, m, h => by
    rw [List.length_cons, List.range_succ_eq_map, List.map_cons, List.map_map]
    refine .cons (h 0 u rfl) ?_
    have e : (fun x => m + x) ∘ Nat.succ = fun x => (m + 1) + x := by
      funext x
      show m + (x + 1) = _
      omega
    rw [e]
    exact each_no r (m + 1) fun j v q => by
      have := h (j + 1) v q
      rw [show m + 1 + j = m + (j + 1) from by omega]
      exact this
/-- what collect makes of a range: the heap has grown by the list at its end -/
theorem collect_rg {r : Addr} {n : Nat} {t u v : Tok} {Q : List Value → Shared → Prop} (hh : A.handled = none) (hr : IsRange s.heap r 0 (n : Int) 1 t u v) (hn : n ≤ 1000)
    (h : ∀ (g : Heap) (tk : Nat) (acc : Array Value), (∀ b o, s.heap.get? b = some o → g.get? b = some o) → s.heap.objs.size < g.objs.size → ItemsOf (fun i x => ∃ t, x = .int (0 + i * 1) t) acc n → Q acc.toList { s with heap := g, toks := tk }) :
    wpAny (model prog w) A (collect (.ref r)) Q E s := by
  have sz : Builtin.Range.rangeSize 0 (n : Int) 1 = n := by
    have := rangeSize_nat 0 (n : Int)
    simpa using this
  let End : Result → Shared → Prop := fun res z => res = .ok (.ret (.ref s.heap.objs.size)) ∧ ∃ (g : Heap) (tk : Nat) (acc : Array Value) (c : Nat), z = { s with heap := g, toks := tk } ∧ (∀ b o, s.heap.get? b = some o → g.get? b = some o) ∧
    g.get? s.heap.objs.size = some { cls := .type "list", dict := none, data := .seq acc c, slots := #[] } ∧ ItemsOf (fun i x => ∃ t, x = .int (0 + i * 1) t) acc n
  unfold collect
  refine wpAny_bind (wpAny_runValue (codeAny_builtin F.entry_proto_collect ?_))
  rw [Around.under_plainId F.plain_proto_collect _]
  show wpAny _ A.in1 (newList [] >>= fun l => again (.builtin "list.__iadd__" ⟨[l, .ref r], []⟩)) _ _ s
  refine wpAny_bind (wpAny_newObj_type (wpAny_pure ⟨plainId_quiet F.plain_list_iadd _, codeAny_builtin F.entry_list_iadd ?_⟩))
  rw [Around.under_plainId F.plain_list_iadd _]
  show wpAny _ A.in1 (Builtin.List.listExtendWith (.ref s.heap.objs.size) (.ref r) (.ref s.heap.objs.size)) _ _ _
  refine wpAny_mono (wpAny_extend_range (A := A) (R := End) (s := { s with heap := s.heap.push { cls := .type "list", data := .seq ([] : List Value).toArray } }) hh (Heap.get?_push_of_some _ hr) (small_one (by decide) (by decide) (by omega) (by omega)) sz (Nat.le_trans hn (by decide)) _ _ 0 (Heap.get?_push_size _ rfl)
    (fun g tk acc c k at_ items => ⟨rfl, g, tk, acc, c, rfl, fun b o e => k b o (Nat.ne_of_lt (Heap.lt_size e)) (Heap.get?_push_of_some _ e), at_, items⟩)) (fun fin z hz => ?_) fun e z hz => absurd hz.1 (by simp)
  have fine : ∀ {res : Result} {z : Shared}, End res z → (match res with
      | .ok (.ret v) => wpAny (model prog w) A (match v with
        | .ref a => do
          let o ← load a
          match o.data with
          | .seq xs _ => pure xs.toList
          | _ => unsupported "internal:collect"
        | _ => unsupported "internal:collect") Q E z
      | .ok _ => False
      | .error e => E e z) := fun {res z} e => by
    obtain ⟨rfl, g, tk, acc, c, rfl, k, at_, items⟩ := e
    exact wpAny_bind (wpAny_load at_ (wpAny_pure (h g tk acc k (Heap.lt_size at_) items)))
  cases fin with
  | done f => exact fine hz
  | again c' => exact ⟨hz.1, codeAny_mono hz.2 fun rr z2 e => fine e⟩
theorem sorted_key_rg {r : Addr} {n : Nat} {q : Addr} {t u v : Tok} {k : Nat → PyData} {Q : Value → Shared → Prop} (hh : A.handled = none) (hr : IsRange s.heap r 0 (n : Int) 1 t u v) (hn : n ≤ 1000)
    (hal : AllAlike ((List.range n).map k)) (hsk : Sortable ((List.range n).map k)) (hu : ∀ x, x < n → A.units + 2 + (k x).depth < cLine)
    (turn : ∀ (i : Nat) (tv : Tok), i < n → ∀ (h : Heap) (tk : Nat), (∀ b o, s.heap.get? b = some o → h.get? b = some o) →
      wpAny (model prog w) A.in1.in1 (call (.ref q) [.int (i : Nat) tv]) (KeyPure (k i) { s with heap := h, toks := tk }) (fun _ _ => False) { s with heap := h, toks := tk })
    (h : ∀ (out : List Value) (c : Nat) (h' : Heap) (tk : Nat) (D : Addr), (∀ b o, s.heap.get? b = some o → h'.get? b = some o) → s.heap.objs.size ≤ D → h'.get? D = some (seqObj "list" (List.toArray out) c) → EachIs IsNo out ((List.range n).mergeSort (dataLe false k)) →
      Q (.ref D) { s with heap := h', toks := tk }) :
    wpAny (model prog w) A (call (.builtin "sorted") [.ref r] [(Str.ofString "key", .ref q)]) Q E s := by
  refine call_function_entry_kw kind_sorted plain_sorted entry_sorted (by unfold argsOk; kernel_rfl) ?_
  unfold Builtin.«sorted»
  refine wpAny_bind (m := checkCount "sorted" 1 1 _) (wpAny_pure ?_)
  refine wpAny_bind (collect_rg (A := A.in1) hh hr hn fun h1 tk1 acc k1 grow hi => ?_)
  have la : acc.toList.length = n := by rw [Array.length_toList]; exact hi.1
  have hL : acc.toList.length ≤ sizeLine := by rw [la, sizeLine_eq]; omega
  refine wpAny_bind (wpAny_newList ?_ hL)
  have each : EachIs IsNo acc.toList (List.range n) := by
    have z := each_no acc.toList 0 fun j u hj => by
      obtain ⟨t', e⟩ := hi.2 j u (by rw [← hj, Array.getElem?_toList])
      exact ⟨t', by rw [e, Int.mul_one, Nat.zero_add, Int.zero_add]⟩
    rw [la] at z
    simpa using z
  have hD : (h1.push (seqObj "list" acc.toList.toArray 0)).get? h1.objs.size = some (seqObj "list" acc.toList.toArray 0) := Heap.get?_push_size _ rfl
  refine wpAny_bind (wpAny_holding (wpAny_call_entry_kw slot_list_sort ⟨_, hD, rfl⟩ entry_list_sort ?body (by unfold argsOk; kernel_rfl)))
  case body =>
    show wpAny (model prog w) A.in1.in1 (Builtin.«list.sort» ⟨[.ref h1.objs.size], [(Str.ofString "key", .ref q)]⟩) _ _ _
    rw [ksk_t1]
    have up : ∀ {g : Heap}, KeepsBut h1.objs.size (h1.push (seqObj "list" acc.toList.toArray 0)) g → ∀ b o, s.heap.get? b = some o → g.get? b = some o := fun kp b o e =>
      kp b o (Nat.ne_of_lt (Heap.lt_size (k1 _ _ e))) (Heap.get?_push_of_some _ (k1 _ _ e))
    refine keyH_tree (kz := (List.range n).map k) (A := A.in1.in1) (s := { s with heap := h1.push (seqObj "list" acc.toList.toArray 0), toks := tk1 }) hD (by rw [List.length_map, List.length_range, la]) hL hal hsk (fun d m => ?_) (keyH_turns each fun vv x hR hx hp tk kp => ?_) fun h' tk out c kp hD' ko => ?_
    · obtain ⟨x, mx, rfl⟩ := List.mem_map.mp m
      exact hu x (List.mem_range.mp mx)
    · obtain ⟨tv, rfl⟩ := hR
      exact turn x tv (List.mem_range.mp hx) hp tk (up kp)
    · exact ⟨_, rfl, wpAny_pure ⟨_, rfl, h out c h' tk h1.objs.size (up kp) (Nat.le_of_lt grow) hD' (keyedOut_each k ko each)⟩⟩
end
end OB
namespace OM
/-- by begins, then by indexes -/
abbrev Ahead (b : Nat → Int) (i j : Nat) : Prop := b i < b j ∨ (b i = b j ∧ i < j)
structure Order (b : Nat → Int) (n : Nat) (os : List Nat) : Prop where
  perm : os.Perm (List.range n)
  asc : os.Pairwise (Ahead b)
theorem Order.one {b : Nat → Int} {n : Nat} {os ps : List Nat} (h : Order b n os) (g : Order b n ps) : os = ps := by
  refine List.Perm.eq_of_pairwise (le := Ahead b) (fun x y _ _ h1 h2 => ?_) h.asc g.asc (h.perm.trans g.perm.symm)
  unfold Ahead at h1 h2
  omega
theorem pair_in : ∀ {l : List Nat} {q p : Nat}, l.Pairwise (· < ·) → q ∈ l → p ∈ l → q < p → [q, p].Sublist l
  | x :: xs, q, p, h, hq, hp, lt => by
    obtain ⟨h1, h2⟩ := List.pairwise_cons.mp h
    rcases List.mem_cons.mp hq with e | mq
    · rcases List.mem_cons.mp hp with e2 | mp
      · omega
      · rw [e]
        exact List.Sublist.cons_cons _ (List.singleton_sublist.mpr mp)
    · rcases List.mem_cons.mp hp with e2 | mp
      · have := h1 q mq
        omega
      · exact List.Sublist.cons _ (pair_in h2 mq mp lt)
theorem pair_once : ∀ {l : List Nat} {p q : Nat}, l.Nodup → [p, q].Sublist l → [q, p].Sublist l → False
  | [], _, _, _, h, _ => by cases h
  | x :: xs, p, q, nd, h, g => by
    obtain ⟨n1, n2⟩ := List.nodup_cons.mp nd
    cases h with
    | cons _ h =>
      cases g with
      | cons _ g => exact pair_once n2 h g
      | cons_cons _ g => exact n1 (h.subset (by simp))
    | cons_cons _ h =>
      cases g with
      | cons _ g => exact n1 (g.subset (by simp))
      | cons_cons _ g => exact n1 (List.singleton_sublist.mp g)
theorem order_int (b : Nat → Int) (n : Nat) : Order b n ((List.range n).mergeSort fun i j => decide (b i ≤ b j)) := by
  have tr : ∀ x y z : Nat, decide (b x ≤ b y) = true → decide (b y ≤ b z) = true → decide (b x ≤ b z) = true := fun x y z h1 h2 => by
    simp only [decide_eq_true_eq] at h1 h2 ⊢
    omega
  have tot : ∀ x y : Nat, (decide (b x ≤ b y) || decide (b y ≤ b x)) = true := fun x y => by
    simp only [Bool.or_eq_true, decide_eq_true_eq]
    omega
  refine ⟨List.mergeSort_perm _ _, ?_⟩
  have p1 := List.pairwise_mergeSort tr tot (List.range n)
  have nd : ((List.range n).mergeSort fun i j => decide (b i ≤ b j)).Nodup := (List.mergeSort_perm _ _).nodup_iff.mpr List.nodup_range
  rw [List.pairwise_iff_forall_sublist] at p1 ⊢
  intro p q sub
  have h1 := p1 sub
  simp only [decide_eq_true_eq] at h1
  have mem : ∀ x, x ∈ [p, q] → x ∈ List.range n := fun x m => (List.mergeSort_perm _ _).mem_iff.mp (sub.subset m)
  rcases Int.lt_or_eq_of_le h1 with z | z
  · exact .inl z
  refine .inr ⟨z, ?_⟩
  rcases Nat.lt_trichotomy p q with y | y | y
  · exact y
  · subst y
    exact (pair_once nd sub sub).elim
  · exfalso
    have s2 := pair_in List.pairwise_lt_range (mem q (by simp)) (mem p (by simp)) y
    exact pair_once nd sub (List.pair_sublist_mergeSort tr tot (by simp only [decide_eq_true_eq]; omega) s2)
theorem order_pair (b : Nat → Int) (n : Nat) : Order b n ((List.range n).mergeSort fun i j => decide (b i < b j ∨ (b i = b j ∧ ((i : Nat) : Int) ≤ (j : Nat)))) := by
  have tr : ∀ x y z : Nat, decide (b x < b y ∨ (b x = b y ∧ ((x : Nat) : Int) ≤ (y : Nat))) = true → decide (b y < b z ∨ (b y = b z ∧ ((y : Nat) : Int) ≤ (z : Nat))) = true → decide (b x < b z ∨ (b x = b z ∧ ((x : Nat) : Int) ≤ (z : Nat))) = true := fun x y z h1 h2 => by
    simp only [decide_eq_true_eq] at h1 h2 ⊢
    omega
  have tot : ∀ x y : Nat, (decide (b x < b y ∨ (b x = b y ∧ ((x : Nat) : Int) ≤ (y : Nat))) || decide (b y < b x ∨ (b y = b x ∧ ((y : Nat) : Int) ≤ (x : Nat)))) = true := fun x y => by
    simp only [Bool.or_eq_true, decide_eq_true_eq]
    omega
  refine ⟨List.mergeSort_perm _ _, ?_⟩
  have p1 := List.pairwise_mergeSort tr tot (List.range n)
  have nd : ((List.range n).mergeSort fun i j => decide (b i < b j ∨ (b i = b j ∧ ((i : Nat) : Int) ≤ (j : Nat)))).Nodup := (List.mergeSort_perm _ _).nodup_iff.mpr List.nodup_range
  rw [List.pairwise_iff_forall_sublist] at p1 ⊢
  intro p q sub
  have h1 := p1 sub
  simp only [decide_eq_true_eq] at h1
  have ne : p ≠ q := fun z => by
    subst z
    exact (pair_once nd sub sub).elim
  unfold Ahead
  omega
end OM
namespace OB
open PySem PySem.Spec PyProof.Rows L2 LamX PySem.W
/-- at a a list of tuples that begin with whole numbers -/
def BegAt (h : Heap) (a : Addr) (n : Nat) (b : Nat → Int) : Prop := ∃ us : List Value, h.IsList a us.toArray ∧ us.length = n ∧ ∀ i, i < n → ∃ (t : Addr) (its : Array Value) (tk : Tok), us[i]? = some (.ref t) ∧ IsTup h t its ∧ its[0]? = some (.int (b i) tk)
section
variable {prog : Program} {w : World} {A : Around} {E : Value → Shared → Prop} {s : Shared} {env : Env}
theorem begin_eval {x y : Str} {c a : Addr} {n i : Nat} {b : Nat → Int} {m : Str → Option Value} {tv : Tok} {p1 p2 p3 p4 p5 : Pos} {Q : Value → Shared → Prop} (hk : env.scope.kind = .function) (hf : env.kindOf y = some .free) (hc : env.cells.lookup y = some c) (hcell : s.heap.IsCell c (some (.ref a)))
    (hl : env.kindOf x = some .local) (hn : s.heap.Ns env.locals m) (hv : m x = some (.int (i : Nat) tv)) (hb : BegAt s.heap a n b) (hi : i < n) (hn2 : n ≤ 1000) (dx : (x == ("__debug__" : Str)) = false) (dy : (y == ("__debug__" : Str)) = false) (cy : (y == ("__classdict__" : Str)) = false)
    (q : ∀ t tk, Q (.int (b i) t) { s with toks := tk }) : wpAny (model prog w) A (eval (.Subscript (.Subscript (.Name y p1) (.Name x p2) p3) (.Constant (.int 0) 0 p4) p5) env) Q E s := by
  obtain ⟨us, hu, hlen, items⟩ := hb
  obtain ⟨t, its, tk, e1, e2, e3⟩ := items i hi
  refine Subscript_ (Subscript_ (wpAny_Name (wpAny_loadName_free hk hf hc hcell (wpAny_Name (wpAny_loadName_local hk hl hn hv ?_) dx) cy) dy))
  refine item_listR (x := .ref t) hu (by omega) (by omega) (by rw [Int.toNat_natCast, List.getElem?_toArray]; exact e1) ?_ (by rfl)
  refine wpAny_Constant_int ?_
  exact subscriptTail_builtinR (x := .int (b i) tk) e2.typeIs slot_tuple_getitem.lookup (PyProof.Rows.getItem_tuple (j := 0) (Q := fun r s' => r = .int (b i) tk ∧ Q r s') e2 (by omega) (by omega) (by
    have : 0 < its.size := by
      rcases Nat.eq_zero_or_pos its.size with z | z
      · rw [Array.getElem?_eq_none (by omega)] at e3; cases e3
      · exact z
    rw [seqIndex_of (by omega) (by omega)] <;> rfl) e3 ⟨rfl, q _ _⟩) (by rfl)
end
end OB
namespace OB
open PySem PySem.Spec PyProof.Rows L2 LamX PySem.W
section
variable {prog : Program} {w : World} {A : Around} {s : Shared}
theorem key_call {f c' : Addr} {qq x : Str} {params : Arguments} {body : Expr} {scope : Scope} {clo : List (Str × Addr)} {pm ctv v : Value} {k : PyData} (hd : A.depth < recursionLimit) (hf : s.heap.get? f = some (kla_obj "<lambda>" qq params body scope clo pm c' ctv)) (lim : s.heap.NoLimit)
    (hc : s.heap.CodeRec (.ref c') qq) (kind : scope.kind = .function) (co : scope.isCoroutine = false) (gen : scope.isGenerator = false) (nocell : ∀ y ∈ scope.names, y.2 ≠ .cell) (hx : scope.names.lookup x = some .local)
    (hbind : bindArgs (kla_fn "<lambda>" qq params body scope clo pm (.ref c') ctv) ⟨[v], []⟩ = pure [(x, v)])
    (hbody : ∀ (h₁ : Heap) (tk : Nat), (∀ b o, s.heap.get? b = some o → h₁.get? b = some o) → h₁.Ns s.heap.objs.size (fun y => [(x, v)].reverse.lookup y) →
      wpAny (model prog w) (A.deeper (envX qq scope s.heap.objs.size f (.ref c') clo)) (eval body (envX qq scope s.heap.objs.size f (.ref c') clo)) (fun u s' => KeyPure k s u s') (fun _ _ => False) { s with heap := h₁, toks := tk }) :
    wpAny (model prog w) A (call (.ref f) [v]) (KeyPure k s) (fun _ _ => False) s := by
  refine wpAny_call (kla_callFunE hd hf rfl co gen rfl hc ?_)
  rw [hbind]
  refine wpAny_pure (wpAny_newFunctionEnv nocell (fun y hy => by rw [List.mem_singleton.mp hy]; exact hx) (fun h₁ hns hsb => ⟨lim.fresh _ hsb, ?_⟩) kind)
  have kp : ∀ b o, s.heap.get? b = some o → h₁.get? b = some o := fun b o e => hsb.extBut b o (Nat.ne_of_lt (Heap.lt_size e)) (Heap.get?_push_of_some _ e)
  show codeAny _ _ (.expr body (envX qq scope s.heap.objs.size f (.ref c') clo)) _ _
  exact kla_codeExpr (wpAny_mono (hbody h₁ _ kp hns) (fun u s' hq => hq) fun e s' hq => hq.elim)
end
end OB
namespace OB
open PySem PySem.Spec PyProof.Rows L2 LamX PySem.W
/-! ### sorted(range(..), key=lambda x: ..), the key by the begins of stays -/
/-- what the body of such a lambda must give -/
def KeyBody (y x : Str) (body : Expr) (kf : (Nat → Int) → Nat → PyData) : Prop := ∀ (prog : Program) (w : World) (A : Around) (s : Shared) (env : Env) (c a : Addr) (n i : Nat) (b : Nat → Int) (m : Str → Option Value) (tv : Tok), env.scope.kind = .function → env.kindOf y = some .free → env.cells.lookup y = some c → s.heap.IsCell c (some (.ref a)) →
  env.kindOf x = some .local → s.heap.Ns env.locals m → m x = some (.int (i : Nat) tv) → BegAt s.heap a n b → i < n → n ≤ 1000 → wpAny (model prog w) A (eval body env) (KeyPure (kf b i) s) (fun _ _ => False) s
structure SortKey (y x : Str) (body : Expr) (kf : (Nat → Int) → Nat → PyData) : Prop where
  run : KeyBody y x body kf
  al : ∀ b i j, alike (kf b i) (kf b j) = true
  so : ∀ b n, Sortable ((List.range n).map (kf b))
  dp : ∀ b i, (kf b i).depth ≤ 1
  or : ∀ b n, OM.Order b n ((List.range n).mergeSort (dataLe false (kf b)))
theorem pure_tok {k : PyData} {s : Shared} {v : Value} {tk : Nat} (r : ∀ h, Reads h v k []) : KeyPure k s v { s with toks := tk } := ⟨s.heap, tk, rfl, fun _ _ e => e, r _⟩
theorem sortKey1 {y x : Str} {p1 p2 p3 p4 p5 : Pos} (dx : (x == ("__debug__" : Str)) = false) (dy : (y == ("__debug__" : Str)) = false) (cy : (y == ("__classdict__" : Str)) = false) :
    SortKey y x (.Subscript (.Subscript (.Name y p1) (.Name x p2) p3) (.Constant (.int 0) 0 p4) p5) (fun b i => .int (b i)) := by
  refine ⟨fun prog w A s env c a n i b m tv h1 h2 h3 h4 h5 h6 h7 h8 h9 h10 => begin_eval h1 h2 h3 h4 h5 h6 h7 h8 h9 h10 dx dy cy fun t tk => pure_tok fun h => .int _ t, fun _ _ _ => rfl, fun b n => Sortable.others fun i => ⟨(by intro z; cases z), fun xs z => by cases z⟩, fun _ _ => Nat.zero_le _, fun b n => ?_⟩
  rw [dataLe_int]
  exact OM.order_int b n
theorem sortKey2 {y x : Str} {p1 p2 p3 p4 p5 p6 p7 : Pos} {kt : Nat} (dx : (x == ("__debug__" : Str)) = false) (dy : (y == ("__debug__" : Str)) = false) (cy : (y == ("__classdict__" : Str)) = false) :
    SortKey y x (.Tuple [.Subscript (.Subscript (.Name y p1) (.Name x p2) p3) (.Constant (.int 0) 0 p4) p5, .Name x p6] kt p7) (fun b i => .tuple [.int (b i), .int (i : Nat)]) := by
  refine ⟨fun prog w A s env c a n i b m tv h1 h2 h3 h4 h5 h6 h7 h8 h9 h10 => ?_, fun _ _ _ => rfl, fun b n => Sortable.tuples fun i => ⟨_, _, rfl⟩, fun _ _ => (show max 0 (max 0 0) + 1 ≤ 1 by decide), fun b n => ?_⟩
  · refine Tuple_ (args_cons (begin_eval h1 h2 h3 h4 h5 h6 h7 h8 h9 h10 dx dy cy fun t tk => args_cons (wpAny_Name (wpAny_loadName_local h1 h5 h6 h7 (args_nil ?_)) dx) (by rfl)) (by rfl))
    refine wpAny_newObj_type ?_ (by show 2 ≤ sizeLine; decide)
    refine ⟨_, tk, rfl, fun b o e => Heap.get?_push_of_some _ e, ?_⟩
    exact .tuple (vs := #[.int (b i) t, .int (i : Nat) tv]) (Heap.get?_push_size _ rfl) rfl rfl (.cons (as := []) (.int _ t) (.cons (as := []) (.int _ tv) .nil))
  · rw [dataLe_ii]
    exact OM.order_pair b n
end OB
namespace OB
open PySem PySem.Spec PyProof.Rows L2 LamX PySem.W
def begs (ss : List S3) (i : Nat) : Int := (ss[i]?.map fun s => s.1).getD 0
/-- range(n) as an object of our own -/
def PRgF (X : Cx) (e : Expr) (t : L2.St → Hp → (Int → Hp → Prop) → Prop) : Prop := ∀ (pins : List (Addr × Obj)) (s : Shared) (σ : L2.St) (H : Hp) (Q : Int → Hp → Prop), Inv X pins σ H s → t σ H Q →
  wpAny (model X.prog X.w) X.A (eval e X.env) (fun x s' => ∃ r n t u v H', x = .ref r ∧ IsRange s'.heap r 0 n 1 t u v ∧ FpOk X pins H' r ∧ Inv X pins σ H' s' ∧ Q n H') X.xe s
def tRgF (ta : TE) : L2.St → Hp → (Int → Hp → Prop) → Prop := fun σ H Q => ta σ H fun x H1 => ∃ n, x = .int n ∧ Q n H1
theorem prg_f {X : Cx} {a : Expr} {ta : TE} {p pos : Pos} (hg : Gl X "range") (hm : X.mg "range" = none) (ha : PE X a ta) (na : starEach [a] X.env = (false, eval a X.env) :: starEach [] X.env := by rfl) : PRgF X (.Call (.Name "range" p) [a] [] pos) (tRgF ta) := by
  intro pins s σ H Q I h
  refine Call_ (ld_blt I hg hm boot_range (PyProof.Rows.callWith_type1 (one_arg ha I h (fun v s2 x H2 I2 r q => ?_) na) na))
  obtain ⟨n, rfl, q⟩ := q
  obtain ⟨t, rfl⟩ := r
  exact call_range_1 ⟨s2.heap.objs.size, n, _, _, _, H2, rfl, IsRange.new _ _ _ _ _ _ _, I2.fpOk (Nat.le_refl _) (I2.hok.fresh (Nat.le_refl _)), I2.kept fun b u e => Heap.get?_push_of_some _ e, q⟩
def tSortK (T : List (Addr × Str)) (iy : Nat) (tr : L2.St → Hp → (Int → Hp → Prop) → Prop) : TE := fun σ H Q => tr σ H fun m H1 => ∃ (a : Addr) (ss : List S3), m = (ss.length : Nat) ∧ σ[iy]? = some (some (.ref a)) ∧ Row H1 a ss ∧ ss.length ≤ 1000 ∧ Tabs T H1 ∧
  ∀ H2, ExtN H1 H2 → Tabs T H2 → ∀ D os, OM.Order (begs ss) ss.length os → H2 D = none → Q (.ref D) (upd H2 D (.lst (os.map fun i => V.int (i : Nat))))
/-- the begins of a row, as the heap has them -/
theorem row_beg {X : Cx} {pins : List (Addr × Obj)} {σ : L2.St} {H : Hp} {s : Shared} {a : Addr} {ss : List S3} (I : Inv X pins σ H s) (row : Row H a ss) : BegAt s.heap a ss.length (begs ss) := by
  obtain ⟨vs, hv, pv⟩ := row
  obtain ⟨its, rv, pl, hz⟩ := I.list (SqL.of hv)
  refine ⟨its, pl.isList, by rw [← rv.length, pv.length], fun i hi => ?_⟩
  obtain ⟨v, hvi⟩ : ∃ v, vs[i]? = some v := ⟨_, List.getElem?_eq_getElem (by have := pv.length; omega)⟩
  obtain ⟨x, hx, t, rfl, ht⟩ := Paired.at pv hvi
  obtain ⟨u, hu, ru⟩ := rv.get hvi
  obtain rfl : u = .ref t := ru
  obtain ⟨jts, jv, jp, _⟩ := I.tuple (SqT.of ht)
  cases jv with
  | cons r1 jv =>
    obtain ⟨tk, rfl⟩ := r1
    exact ⟨t, _, tk, hu, jp, by
      have e : begs ss i = x.1 := by
        unfold begs
        rw [hx] <;> rfl
      rw [e] <;> rfl⟩
theorem BegAt.keeps {h h' : Heap} {a : Addr} {n : Nat} {b : Nat → Int} (x : BegAt h a n b) (k : ∀ c o, h.get? c = some o → h'.get? c = some o) : BegAt h' a n b := by
  obtain ⟨us, ⟨o, e1, e2⟩, e3, e4⟩ := x
  exact ⟨us, ⟨o, k _ _ e1, e2⟩, e3, fun i hi => by
    obtain ⟨t, its, tk, z1, z2, z3⟩ := e4 i hi
    exact ⟨t, its, tk, z1, z2.keeps k, z3⟩⟩
section
variable {X : Cx}
theorem pe_sortKey {T : List (Addr × Str)} {c P : Addr} {iy : Nat} {y x : Str} {re body : Expr} {kf : (Nat → Int) → Nat → PyData} {params : Arguments} {scope : Scope} {tr : L2.St → Hp → (Int → Hp → Prop) → Prop} {p lpos kpos pos : Pos}
    (hcalm : X.calm = true) (hg : Gl X "sorted") (hm : X.mg "sorted" = none) (hr : PRgF X re tr) (K : SortKey y x body kf) (hN : X.N[iy]? = some y) (hcy : X.env.scope.names.lookup y = some .cell)
    (TB : TabB X.base X.mg c P) (hcode : X.env.code = .ref c) (hmT : (P, X.env.qual ++ "<lambda>") ∈ T) (hu : ∀ p ∈ T, p.1 = P → p.2 = X.env.qual ++ "<lambda>") (hroom : Room 2 X.A) (hdef : defaultsOf params X.env = ([], []))
    (kind : scope.kind = .function) (co : scope.isCoroutine = false) (gen : scope.isGenerator = false) (hsc : scope.names = [(x, .local), (y, .free)]) (hxy : x ≠ y)
    (hbind : ∀ (q : Str) (cl : List (Str × Addr)) (pm cv ctv v : Value), bindArgs (PySem.W.kla_fn "<lambda>" q params body scope cl pm cv ctv) ⟨[v], []⟩ = pure [(x, v)])
    (na : starEach [re] X.env = (false, eval re X.env) :: starEach [] X.env := by rfl) (he : backTo pos (starEach [re] X.env) = (false, eval re X.env) :: backTo pos (starEach [] X.env) := by rfl) (hpl : (backTo pos (starEach [re] X.env)).any (·.1) = false := by rfl) :
    PE X (.Call (.Name "sorted" p) [re] [⟨some "key", .Lambda params body scope lpos, kpos⟩] pos) (tSortK T iy tr) := by
  refine ⟨fun pins s σ H Q I h => ?_⟩
  refine wpAny_Call_Name_kw (ld_blt I hg hm (by decide +kernel : bootBuiltins "sorted" = some (.builtin "sorted")) ?_)
  refine PyProof.Rows.callWith_kw (args_cons (thn (hr pins s σ H _ I h) fun rv s1 ⟨r, m, t, u, v, H1, er, hrg, fp, I1, q1⟩ => args_nil ?_) na) he hpl (by rfl) (by rfl)
  obtain ⟨a, ss, rfl, hσ, row, hl, tabs, q⟩ := q1
  subst er
  have ne : r ∈ [r] := List.mem_singleton.mpr rfl
  have I2 : Inv X (pins ++ pinsAt [r] s1.heap) σ H1 s1 := I1.pinned (fp := [r]) (fun b hb => by rw [List.mem_singleton.mp hb]; exact fp) (fun b hb => by rw [List.mem_singleton.mp hb]; exact ⟨_, hrg, fun v z => by cases z⟩)
  have hvy : Vis X.env.scope y := .inr (.inl hcy)
  have free : ∀ z ∈ scope.names, z.2 = .free → ∃ c, X.env.cells.lookup z.1 = some c := fun z mz ez => by
    rw [hsc] at mz
    rcases List.mem_cons.mp mz with e | mz
    · rw [e] at ez
      cases ez
    · rw [List.mem_singleton.mp mz]
      exact I1.ok.has _ (.inl hcy)
  show wpAny _ _ (evalAll [do let v ← eval (.Lambda params body scope lpos) X.env; standAt pos; pure v]) _ _ s1
  refine wpAny_evalAll_cons (wpAny_bind (lam_make2 I2 TB hcode hmT hu tabs hdef free fun f c' pm ctv H2 s2 I3 eN T2 hf hfn hfr hco => wpAny_bind (wpAny_standAt (wpAny_pure (wpAny_evalAll_nil ?_)))))
  show wpAny _ _ (call (.builtin "sorted") [.ref r] [(Str.ofString "key", .ref f)]) _ _ s2
  obtain ⟨o, ho⟩ : ∃ o, s1.heap.get? r = some o := ⟨_, hrg⟩
  have hr2 : IsRange s2.heap r 0 (ss.length : Nat) 1 t u v := by
    have hp := (I3.pin (r, o) (List.mem_append_right _ (List.mem_append_right _ (List.mem_filterMap.mpr ⟨r, ne, by rw [ho] <;> rfl⟩)))).1
    have e : s1.heap.get? r = _ := hrg
    rw [ho] at e
    cases e
    exact hp
  have row2 : Row H2 a ss := by
    obtain ⟨vs, hv, pv⟩ := row
    exact ⟨vs, eN _ _ hv (by intro ps z; cases z), Paired.imp (fun v s ⟨t, e, h⟩ => ⟨t, e, eN _ _ h (by intro ps z; cases z)⟩) pv⟩
  have beg := row_beg I3 row2
  obtain ⟨cy, hcl, hcell⟩ : ∃ cy, X.env.cells.lookup y = some cy ∧ s2.heap.IsCell cy (some (.ref a)) := by
    obtain ⟨m2, _, hl2⟩ := I3.loc
    obtain ⟨w2, r2, l2⟩ := hl2 iy y (.ref a) hN hσ hvy
    obtain rfl : w2 = .ref a := r2
    rcases l2 with ⟨k1, _⟩ | ⟨_, k2⟩
    · have k1 : X.env.scope.names.lookup y = some .local := k1
      rw [hcy] at k1
      cases k1
    · exact k2
  obtain ⟨⟨oc, cvs, ct, hoc, hdc, hvc⟩, _, _⟩ := I3.hok c' _ hco
  have hclo : cloFrom X.env.cells scope.names [] = [(y, cy)] := by
    rw [hsc]
    show [(y, (X.env.cells.lookup y).getD 0)] = _
    rw [hcl] <;> rfl
  rw [hclo] at hf
  have lx : scope.names.lookup x = some .local := by
    rw [hsc]
    simp [List.lookup]
  have ly : scope.names.lookup y = some .free := by
    rw [hsc]
    have : (y == x) = false := beq_false_of_ne (Ne.symm hxy)
    simp [List.lookup, this]
  refine sorted_key_rg (k := kf (begs ss)) (n := ss.length) (I3.ok.hd hcalm) hr2 hl (fun d md d' md' => ?_) (K.so _ _) (fun z _ => ?_) (fun i tv hi g tk kg => ?_) fun out c0 g tk D kg sz gD each => ?_
  · obtain ⟨z1, _, rfl⟩ := List.mem_map.mp md
    obtain ⟨z2, _, rfl⟩ := List.mem_map.mp md'
    exact K.al _ _ _
  · have := K.dp (begs ss) z
    have := hroom.units
    omega
  · refine key_call (s := { s2 with heap := g, toks := tk }) (x := x) ?_ (kg _ _ hf) (I3.nolimit.keeps kg) ⟨c', oc, cvs, ct, rfl, kg _ _ hoc, hdc, hvc⟩ kind co gen (fun z mz => ?_) lx (hbind _ _ _ _ _ _) fun h1 tk1 k1 hns => ?_
    · show X.A.depth < recursionLimit
      exact hroom.depth
    · rw [hsc] at mz
      rcases List.mem_cons.mp mz with e | mz
      · rw [e]
        intro z; cases z
      · rw [List.mem_singleton.mp mz]
        intro z; cases z
    · refine wpAny_mono (K.run X.prog X.w _ { s2 with heap := h1, toks := tk1 } _ cy a ss.length i (begs ss) _ tv kind ly (by simp [List.lookup]) (hcell.keeps fun b o e => k1 _ _ (kg _ _ e)) lx hns (by simp [List.lookup]) (beg.keeps fun b o e => k1 _ _ (kg _ _ e)) hi hl) (fun u2 s3 kp => ?_) fun _ _ z => z
      obtain ⟨h3, tk3, rfl, k3, rd⟩ := kp
      exact ⟨h3, tk3, rfl, fun b o e => k3 _ _ (k1 _ _ e), rd⟩
  · have ord := K.or (begs ss) ss.length
    generalize (List.range ss.length).mergeSort (dataLe false (kf (begs ss))) = os at ord each
    have I4 : Inv X pins σ H2 s2 := I3.unpinned
    have vals : Vals (os.map fun i => V.int (i : Nat)) out := by
      clear ord gD
      induction each with
      | nil => exact .nil
      | cons r1 rest ih =>
        obtain ⟨t1, rfl⟩ := r1
        exact .cons ⟨t1, rfl⟩ ih
    have nD : H2 D = none := I4.hok.fresh sz
    refine ⟨.ref D, upd H2 D (.lst (os.map fun i => V.int (i : Nat))), I4.laid kg sz ⟨?_, out, c0, vals, gD⟩, rfl, q H2 eN T2 D os ord nD⟩
    have := ord.perm.length_eq
    rw [List.length_map, this, List.length_range, sizeLine_eq]
    omega
end
end OB
/-! Stays given to numbers, by begins: the program's way and the law's. -/
namespace OM
def lastD (s : S3) : Int := s.2.1 + s.2.2
/-- numbers that are bound no more on day b -/
def freeP (bt : List Int) (b : Int) : List Nat := (List.range bt.length).filter fun k => decide (bt.getD k 0 < b)
def stepP (many : Int) (s : S3) (i : Nat) (x : List Int × List Int) : Option (List Int × List Int) := match freeP x.1 s.1 with
  | k :: _ => some (x.1.set k (lastD s), x.2.set i ((k : Nat) : Int))
  | [] => if ((x.1.length : Nat) : Int) < many then some (x.1 ++ [lastD s], x.2.set i ((x.1.length : Nat) : Int)) else none
def runP (ss : List S3) (many : Int) : List Nat → List Int × List Int → Option (List Int × List Int)
  | [], x => some x
  | i :: os, x => match ss[i]? with
    | none => none
    | some s => match stepP many s i x with
      | none => none
      | some y => runP ss many os y
def takenL (ss : List S3) (found : List (Option Nat)) (b : Int) : List Nat := (List.range ss.length).filterMap fun k => match found[k]?, ss[k]? with
  | some (some num), some s => if b ≤ lastD s then some num else none
  | _, _ => none
def freeL (ss : List S3) (found : List (Option Nat)) (b many : Int) : List Nat := (List.range many.toNat).filter fun k => decide (k ∉ takenL ss found b)
def runL (ss : List S3) (many : Int) : List Nat → List (Option Nat) → Option (List (Option Nat))
  | [], f => some f
  | i :: os, f => match ss[i]? with
    | none => none
    | some s => match freeL ss f s.1 many with
      | [] => none
      | k :: _ => runL ss many os (f.set i (some k))
theorem mem_taken {ss : List S3} {f : List (Option Nat)} {b : Int} {k : Nat} : k ∈ takenL ss f b ↔ ∃ (i : Nat) (s : S3), f[i]? = some (some k) ∧ ss[i]? = some s ∧ b ≤ lastD s := by
  unfold takenL
  rw [List.mem_filterMap]
  constructor
  · rintro ⟨i, _, h⟩
    split at h
    · rename_i num s h1 h2
      split at h
      · rename_i h3
        obtain rfl := Option.some.inj h
        exact ⟨i, s, h1, h2, h3⟩
      · cases h
    · cases h
  · rintro ⟨i, s, h1, h2, h3⟩
    refine ⟨i, List.mem_range.mpr (List.getElem?_eq_some_iff.mp h2).1, ?_⟩
    rw [h1, h2]
    simp [h3]
/-- what stands while stays are given -/
structure Giv (ss : List S3) (many : Int) (bt ns : List Int) (f : List (Option Nat)) : Prop where
  lf : f.length = ss.length
  ln : ns.length = ss.length
  no : ∀ (i k : Nat), f[i]? = some (some k) → ns[i]? = some ((k : Nat) : Int)
  le : ∀ (i k : Nat) (s : S3), f[i]? = some (some k) → ss[i]? = some s → k < bt.length ∧ lastD s ≤ bt.getD k 0
  ex : ∀ k : Nat, k < bt.length → ∃ (i : Nat) (s : S3), f[i]? = some (some k) ∧ ss[i]? = some s ∧ bt.getD k 0 = lastD s
  fit : ((bt.length : Nat) : Int) ≤ max many 0
theorem Giv.start (ss : List S3) (many : Int) : Giv ss many [] (ss.map fun _ => 0) (List.replicate ss.length none) := by
  refine ⟨by simp, by simp, fun i k h => ?_, fun i k s h => ?_, fun k h => absurd h (Nat.not_lt_zero k), by simp; omega⟩
  all_goals
    rw [List.getElem?_replicate] at h
    split at h <;> cases h
theorem taken_iff {ss : List S3} {many : Int} {bt ns : List Int} {f : List (Option Nat)} (g : Giv ss many bt ns f) {b : Int} {k : Nat} : k ∈ takenL ss f b ↔ k < bt.length ∧ b ≤ bt.getD k 0 := by
  rw [mem_taken]
  constructor
  · rintro ⟨i, s, h1, h2, h3⟩
    obtain ⟨a1, a2⟩ := g.le i k s h1 h2
    exact ⟨a1, Int.le_trans h3 a2⟩
  · rintro ⟨h1, h2⟩
    obtain ⟨i, s, a1, a2, a3⟩ := g.ex k h1
    exact ⟨i, s, a1, a2, by rw [← a3]; exact h2⟩
theorem head_filter {p : Nat → Bool} {n : Nat} {k : Nat} {r : List Nat} (h : (List.range n).filter p = k :: r) : k < n ∧ p k = true ∧ ∀ j, j < k → p j = false := by
  have e : ((List.range n).filter p).head? = some k := by rw [h] <;> rfl
  rw [List.head?_filter] at e
  have := List.find?_range_eq_some.mp e
  refine ⟨by simpa using this.2.1, this.1, fun j hj => by simpa using this.2.2 j hj⟩
theorem nil_filter {p : Nat → Bool} {n : Nat} (h : (List.range n).filter p = []) : ∀ j, j < n → p j = false := fun j hj => by
  have := List.filter_eq_nil_iff.mp h j (List.mem_range.mpr hj)
  simpa using this
/-- one stay more, given k -/
theorem Giv.put {ss : List S3} {many : Int} {bt ns bt' : List Int} {f : List (Option Nat)} {i k : Nat} {s : S3} (g : Giv ss many bt ns f) (gs : s.1 ≤ lastD s) (hs : ss[i]? = some s) (hf : f[i]? = some none)
    (h : (k < bt.length ∧ bt.getD k 0 < s.1 ∧ bt' = bt.set k (lastD s)) ∨ (k = bt.length ∧ ((bt.length : Nat) : Int) < many ∧ bt' = bt ++ [lastD s])) : Giv ss many bt' (ns.set i ((k : Nat) : Int)) (f.set i (some k)) := by
  have hi : i < f.length := by rw [g.lf]; exact (List.getElem?_eq_some_iff.mp hs).1
  have hin : i < ns.length := by rw [g.ln]; exact (List.getElem?_eq_some_iff.mp hs).1
  have len : bt.length ≤ bt'.length ∧ k < bt'.length ∧ bt'.length ≤ max bt.length (k + 1) := by
    rcases h with ⟨h1, _, rfl⟩ | ⟨h1, _, rfl⟩
    · rw [List.length_set]; omega
    · rw [List.length_append, List.length_singleton]; omega
  have atk : bt'.getD k 0 = lastD s := by
    rcases h with ⟨h1, _, rfl⟩ | ⟨h1, _, rfl⟩
    · simp [List.getD, h1]
    · rw [h1]; simp [List.getD]
  have oth : ∀ j, j ≠ k → j < bt.length → bt'.getD j 0 = bt.getD j 0 := fun j nj hj => by
    rcases h with ⟨h1, _, rfl⟩ | ⟨h1, _, rfl⟩
    · simp [List.getD, List.getElem?_set, Ne.symm nj]
    · simp [List.getD, List.getElem?_append_left hj]
  have at_ : ∀ j m, (f.set i (some k))[j]? = some (some m) → (j = i ∧ m = k) ∨ (j ≠ i ∧ f[j]? = some (some m)) := fun j m e => by
    by_cases z : j = i
    · subst z
      rw [List.getElem?_set_self hi] at e
      injection e with e
      injection e with e
      exact .inl ⟨rfl, e.symm⟩
    · rw [List.getElem?_set_ne (Ne.symm z)] at e
      exact .inr ⟨z, e⟩
  refine ⟨by rw [List.length_set, g.lf], by rw [List.length_set, g.ln], fun j m e => ?_, fun j m t e ht => ?_, fun m hm => ?_, ?_⟩
  · rcases at_ j m e with ⟨rfl, rfl⟩ | ⟨nj, e⟩
    · rw [List.getElem?_set_self hin]
    · rw [List.getElem?_set_ne (Ne.symm nj)]
      exact g.no j m e
  · rcases at_ j m e with ⟨rfl, rfl⟩ | ⟨nj, e⟩
    · rw [hs] at ht
      obtain rfl := Option.some.inj ht
      exact ⟨len.2.1, by rw [atk]; exact Int.le_refl _⟩
    · obtain ⟨a1, a2⟩ := g.le j m t e ht
      refine ⟨by omega, ?_⟩
      by_cases z : m = k
      · subst z
        rw [atk]
        rcases h with ⟨h1, h2, _⟩ | ⟨h1, _, _⟩
        · omega
        · omega
      · rw [oth m z a1]
        exact a2
  · by_cases z : m = k
    · subst z
      exact ⟨i, s, List.getElem?_set_self hi, hs, atk⟩
    · have hm2 : m < bt.length := by
        rcases h with ⟨h1, _, rfl⟩ | ⟨h1, _, rfl⟩
        · rw [List.length_set] at hm; exact hm
        · rw [List.length_append, List.length_singleton] at hm; omega
      obtain ⟨j, t, a1, a2, a3⟩ := g.ex m hm2
      have nj : j ≠ i := fun y => by
        rw [y, hf] at a1
        cases a1
      exact ⟨j, t, by rw [List.getElem?_set_ne (Ne.symm nj)]; exact a1, a2, by rw [oth m z hm2]; exact a3⟩
  · have := g.fit
    rcases h with ⟨h1, _, rfl⟩ | ⟨h1, h2, rfl⟩
    · rw [List.length_set]; exact this
    · rw [List.length_append, List.length_singleton]; omega
/-- one step: the same number, or none both -/
theorem Giv.step {ss : List S3} {many : Int} {bt ns : List Int} {f : List (Option Nat)} {i : Nat} {s : S3} (g : Giv ss many bt ns f) (gs : s.1 ≤ lastD s) (hs : ss[i]? = some s) (hf : f[i]? = some none) :
    (∃ (k : Nat) (r : List Nat) (bt' : List Int), freeL ss f s.1 many = k :: r ∧ stepP many s i (bt, ns) = some (bt', ns.set i ((k : Nat) : Int)) ∧ Giv ss many bt' (ns.set i ((k : Nat) : Int)) (f.set i (some k)) ∧ (∀ (j : Nat) (t : S3), f[j]? = some (some k) → ss[j]? = some t → lastD t < s.1)) ∨
    (freeL ss f s.1 many = [] ∧ stepP many s i (bt, ns) = none ∧ ∀ k : Nat, (k : Int) < many → ∃ (j : Nat) (t : S3), f[j]? = some (some k) ∧ ss[j]? = some t ∧ s.1 ≤ lastD t) := by
  have old : ∀ k j t, (k ∉ takenL ss f s.1) → f[j]? = some (some k) → ss[j]? = some t → lastD t < s.1 := fun k j t h a b => by
    rcases Int.lt_or_le (lastD t) s.1 with z | z
    · exact z
    · exact absurd (mem_taken.mpr ⟨j, t, a, b, z⟩) h
  cases hp : freeP bt s.1 with
  | cons k r =>
    obtain ⟨h1, h2, h3⟩ := head_filter hp
    have h2 := of_decide_eq_true h2
    have nt : k ∉ takenL ss f s.1 := fun m => by
      have := (taken_iff g).mp m
      omega
    cases hl : freeL ss f s.1 many with
    | nil =>
      exfalso
      have z := nil_filter hl k (by have := g.fit; omega)
      exact absurd nt (of_decide_eq_false z)
    | cons k2 r2 =>
      obtain ⟨l1, l2, l3⟩ := head_filter hl
      have l2 := of_decide_eq_true l2
      have e : k2 = k := by
        rcases Nat.lt_trichotomy k2 k with z | z | z
        · have y := h3 k2 z
          exact absurd ((taken_iff g).mpr ⟨by omega, by have := of_decide_eq_false y; omega⟩) l2
        · exact z
        · have y := l3 k z
          exact absurd nt (of_decide_eq_false y)
      subst e
      refine .inl ⟨k2, r2, _, rfl, ?_, g.put gs hs hf (.inl ⟨h1, h2, rfl⟩), fun j t => old k2 j t nt⟩
      unfold stepP
      rw [hp]
  | nil =>
    have full : ∀ k, k < bt.length → s.1 ≤ bt.getD k 0 := fun k hk => by
      have := of_decide_eq_false (nil_filter hp k hk)
      omega
    by_cases c : ((bt.length : Nat) : Int) < many
    · have nt : bt.length ∉ takenL ss f s.1 := fun m => by
        have := (taken_iff g).mp m
        omega
      cases hl : freeL ss f s.1 many with
      | nil =>
        exfalso
        have z := nil_filter hl bt.length (by omega)
        exact absurd nt (of_decide_eq_false z)
      | cons k2 r2 =>
        obtain ⟨l1, l2, l3⟩ := head_filter hl
        have l2 := of_decide_eq_true l2
        have e : k2 = bt.length := by
          rcases Nat.lt_trichotomy k2 bt.length with z | z | z
          · exact absurd ((taken_iff g).mpr ⟨z, full k2 z⟩) l2
          · exact z
          · have y := l3 bt.length z
            exact absurd nt (of_decide_eq_false y)
        subst e
        refine .inl ⟨bt.length, r2, _, rfl, ?_, g.put gs hs hf (.inr ⟨rfl, c, rfl⟩), fun j t => old _ j t nt⟩
        unfold stepP
        rw [hp]
        exact if_pos c
    · refine .inr ⟨?_, ?_, fun k hk => ?_⟩
      · unfold freeL
        rw [List.filter_eq_nil_iff]
        intro k mk
        have hk := List.mem_range.mp mk
        have : k ∈ takenL ss f s.1 := (taken_iff g).mpr ⟨by omega, full k (by omega)⟩
        simpa using this
      · unfold stepP
        rw [hp]
        exact if_neg c
      · obtain ⟨j, t, a1, a2, a3⟩ := g.ex k (by omega)
        exact ⟨j, t, a1, a2, by rw [← a3]; exact full k (by omega)⟩
end OM
namespace OM
theorem nodup_le : ∀ {xs ys : List Nat}, xs.Nodup → (∀ x ∈ xs, x ∈ ys) → xs.length ≤ ys.length
  | [], _, _, _ => Nat.zero_le _
  | x :: xs, ys, nd, h => by
    obtain ⟨n1, n2⟩ := List.nodup_cons.mp nd
    have m := h x (List.mem_cons_self ..)
    have ih := nodup_le (xs := xs) (ys := ys.erase x) n2 fun z mz => (List.mem_erase_of_ne (fun e => n1 (by rw [← e]; exact mz))).mpr (h z (List.mem_cons_of_mem _ mz))
    rw [List.length_erase_of_mem m] at ih
    have : 0 < ys.length := List.length_pos_of_mem m
    rw [List.length_cons]
    omega
/-- the indexes of stays bound on a day -/
def onDay (ss : List S3) (d : Int) : List Nat := (List.range ss.length).filter fun i => match ss[i]? with
  | some s => decide (s.1 ≤ d) && decide (d ≤ lastD s)
  | none => false
theorem mem_onDay {ss : List S3} {d : Int} {i : Nat} : i ∈ onDay ss d ↔ ∃ s, ss[i]? = some s ∧ s.1 ≤ d ∧ d ≤ lastD s := by
  unfold onDay
  rw [List.mem_filter, List.mem_range]
  constructor
  · rintro ⟨_, h⟩
    cases e : ss[i]? with
    | none => rw [e] at h; cases h
    | some s =>
      rw [e] at h
      simp only [Bool.and_eq_true, decide_eq_true_eq] at h
      exact ⟨s, rfl, h.1, h.2⟩
  · rintro ⟨s, e, h1, h2⟩
    refine ⟨(List.getElem?_eq_some_iff.mp e).1, ?_⟩
    rw [e]
    simp [h1, h2]
theorem onDay_len : ∀ (ss : List S3) (d : Int), (onDay ss d).length = cB (spans ss) d
  | [], d => rfl
  | s :: ss, d => by
    have ih := onDay_len ss d
    unfold onDay at ih ⊢
    rw [List.length_cons, List.range_succ_eq_map, List.filter_cons, List.filter_map]
    have e : ((fun i => match (s :: ss)[i]? with
      | some s => decide (s.1 ≤ d) && decide (d ≤ lastD s)
      | none => false) ∘ Nat.succ) = fun i => match ss[i]? with
      | some s => decide (s.1 ≤ d) && decide (d ≤ lastD s)
      | none => false := by
      funext i
      show (match (s :: ss)[i + 1]? with
        | some s => decide (s.1 ≤ d) && decide (d ≤ lastD s)
        | none => false) = _
      rw [List.getElem?_cons_succ]
    rw [e]
    unfold cB spans at ih ⊢
    rw [List.map_cons, List.countP_cons]
    show (if (decide (s.1 ≤ d) && decide (d ≤ lastD s)) = true then _ else _ : List Nat).length = _ + if (decide (s.1 ≤ d) && decide (d ≤ s.2.1 + s.2.2)) = true then 1 else 0
    unfold lastD at ih ⊢
    split
    · rw [List.length_cons, List.length_map, ih]
    · rw [List.length_map, ih]
      omega
def Apart (ss : List S3) (f : List (Option Nat)) : Prop := ∀ (i j k : Nat) (s t : S3), i ≠ j → f[i]? = some (some k) → f[j]? = some (some k) → ss[i]? = some s → ss[j]? = some t → lastD s < t.1 ∨ lastD t < s.1
theorem apart_put {ss : List S3} {f : List (Option Nat)} {i k : Nat} {s : S3} (a : Apart ss f) (hi : i < f.length) (hs : ss[i]? = some s) (h : ∀ (j : Nat) (t : S3), f[j]? = some (some k) → ss[j]? = some t → lastD t < s.1) : Apart ss (f.set i (some k)) := by
  have at_ : ∀ (j m : Nat), (f.set i (some k))[j]? = some (some m) → (j = i ∧ m = k) ∨ (j ≠ i ∧ f[j]? = some (some m)) := fun j m e => by
    by_cases z : j = i
    · subst z
      rw [List.getElem?_set_self hi] at e
      injection e with e
      injection e with e
      exact .inl ⟨rfl, e.symm⟩
    · rw [List.getElem?_set_ne (Ne.symm z)] at e
      exact .inr ⟨z, e⟩
  intro p q m u v pq hp hq hu hv
  rcases at_ p m hp with ⟨rfl, rfl⟩ | ⟨n1, e1⟩
  · rcases at_ q m hq with ⟨rfl, _⟩ | ⟨n2, e2⟩
    · exact absurd rfl pq
    · rw [hs] at hu
      obtain rfl := Option.some.inj hu
      exact .inr (h q v e2 hv)
  · rcases at_ q m hq with ⟨rfl, rfl⟩ | ⟨n2, e2⟩
    · rw [hs] at hv
      obtain rfl := Option.some.inj hv
      exact .inl (h p u e1 hu)
    · exact a p q m u v pq e1 e2 hu hv
/-- a whole giving below many: no day has more than many -/
theorem few_bound {ss : List S3} {many : Nat} {f : List (Option Nat)} (a : Apart ss f) (all : ∀ i, i < ss.length → ∃ k : Nat, f[i]? = some (some k) ∧ k < many) (d : Int) : cB (spans ss) d ≤ many := by
  rw [← onDay_len]
  have nd : (onDay ss d).Nodup := (List.nodup_range).sublist List.filter_sublist
  have pw : (onDay ss d).Pairwise (fun i j => ((f[i]?.getD none).getD 0) ≠ ((f[j]?.getD none).getD 0)) := by
    rw [List.pairwise_iff_forall_sublist]
    intro i j sub e
    have ne : i ≠ j := List.pairwise_iff_forall_sublist.mp nd sub
    have mi := mem_onDay.mp (sub.subset (by simp : i ∈ [i, j]))
    have mj := mem_onDay.mp (sub.subset (by simp : j ∈ [i, j]))
    obtain ⟨s, hs, s1, s2⟩ := mi
    obtain ⟨t, ht, t1, t2⟩ := mj
    obtain ⟨k, hk, _⟩ := all i (List.getElem?_eq_some_iff.mp hs).1
    obtain ⟨m, hm, _⟩ := all j (List.getElem?_eq_some_iff.mp ht).1
    rw [hk, hm] at e
    have e : k = m := e
    subst e
    rcases a i j k s t ne hk hm hs ht with z | z <;> omega
  have nd2 : ((onDay ss d).map fun i => ((f[i]?.getD none).getD 0)).Nodup := by
    rw [List.nodup_iff_pairwise_ne, List.pairwise_map]
    exact pw
  have := nodup_le (ys := List.range many) nd2 fun x mx => by
    obtain ⟨i, mi, rfl⟩ := List.mem_map.mp mx
    obtain ⟨s, hs, _, _⟩ := mem_onDay.mp mi
    obtain ⟨k, hk, lk⟩ := all i (List.getElem?_eq_some_iff.mp hs).1
    rw [hk]
    exact List.mem_range.mpr lk
  rw [List.length_map, List.length_range] at this
  exact this
/-- where none is left, more are bound -/
theorem too_many {ss : List S3} {many : Int} {f : List (Option Nat)} {i : Nat} {s : S3} (hs : ss[i]? = some s) (gs : s.1 ≤ lastD s) (hf : f[i]? = some none) (ahead : ∀ (j : Nat) (t : S3) (k : Nat), f[j]? = some (some k) → ss[j]? = some t → t.1 ≤ s.1)
    (full : ∀ k : Nat, (k : Int) < many → ∃ (j : Nat) (t : S3), f[j]? = some (some k) ∧ ss[j]? = some t ∧ s.1 ≤ lastD t) : many < cB (spans ss) s.1 := by
  rw [← onDay_len]
  have pick : ∀ k : Nat, k < many.toNat → ∃ j : Nat, f[j]? = some (some k) ∧ j ∈ onDay ss s.1 := fun k hk => by
    obtain ⟨j, t, a1, a2, a3⟩ := full k (by omega)
    exact ⟨j, a1, mem_onDay.mpr ⟨t, a2, ahead j t k a1 a2, a3⟩⟩
  have key : ∀ n, n ≤ many.toNat → ∃ js : List Nat, js.length = n ∧ js.Nodup ∧ (∀ j ∈ js, j ∈ onDay ss s.1) ∧ ∀ j ∈ js, ∃ k : Nat, k < n ∧ f[j]? = some (some k) := fun n => by
    induction n with
    | zero => exact fun _ => ⟨[], rfl, List.nodup_nil, (fun j m => by cases m), fun j m => by cases m⟩
    | succ n ih =>
      intro hn
      obtain ⟨js, l, nd, on, nums⟩ := ih (by omega)
      obtain ⟨j, hj, mj⟩ := pick n (by omega)
      refine ⟨j :: js, by rw [List.length_cons, l], List.nodup_cons.mpr ⟨fun m => ?_, nd⟩, fun x m => ?_, fun x m => ?_⟩
      · obtain ⟨k, hk, e⟩ := nums j m
        rw [hj] at e
        injection e with e
        injection e with e
        omega
      · rcases List.mem_cons.mp m with z | z
        · rw [z]; exact mj
        · exact on x z
      · rcases List.mem_cons.mp m with z | z
        · rw [z]; exact ⟨n, by omega, hj⟩
        · obtain ⟨k, hk, e⟩ := nums x z
          exact ⟨k, by omega, e⟩
  obtain ⟨js, l, nd, on, nums⟩ := key many.toNat (Nat.le_refl _)
  have ni : i ∉ js := fun m => by
    obtain ⟨k, _, e⟩ := nums i m
    rw [hf] at e
    cases e
  have sub : ∀ x ∈ i :: js, x ∈ onDay ss s.1 := fun x m => by
    rcases List.mem_cons.mp m with z | z
    · rw [z]
      exact mem_onDay.mpr ⟨s, hs, Int.le_refl _, gs⟩
    · exact on x z
  have := nodup_le (List.nodup_cons.mpr ⟨ni, nd⟩) sub
  rw [List.length_cons, l] at this
  omega
end OM
namespace OB
open PySem PySem.Spec PyProof.Rows L2 LamX
abbrev sBy : Stmt := top 17
abbrev sOrd : Stmt := top 34
def qBy : Str := "by_begins.<locals>.<lambda>"
def qOrd : Str := "_law_order.<locals>.<lambda>"
/-- the indexes of stays, by begins, then by indexes -/
def spBy (T : List (Addr × Str)) : Sp := fun vs H Q _ => ∃ (a : Addr) (ss : List S3), vs = [.ref a] ∧ Row H a ss ∧ ss.length ≤ 1000 ∧ Tabs T H ∧ ∀ H2, ExtN H H2 → Tabs T H2 → ∀ D os, OM.Order (begs ss) ss.length os → H2 D = none → Q (.ref D) (upd H2 D (.lst (os.map fun i => V.int (i : Nat))))
section
variable {P : Program} {w : World} {K : PySem.W.Frag} {mg : Str → Option Value} {base : Heap}
theorem scBy : FnScope ["stays"] ["stays"] (defScope sBy) := ⟨rfl, rfl, rfl, by decide +kernel, rfl, by decide +kernel, by decide +kernel⟩
theorem ok_by {f c Pt : Addr} {fd : FuncData} {TT : List (Addr × Str)} (F : FunC K "by_begins" "by_begins" sBy f fd c) (so : mg "sorted" = none) (rg : mg "range" = none) (le : mg "len" = none)
    (TB : TabB base mg c Pt) (hT : ∀ y ∈ TT, y.1 = Pt → y.2 = qBy) (mT : (Pt, qBy) ∈ TT) : FnOk P w K mg base CX0 3 f fd ["stays"] (spBy TT) := by
  refine F.ok scBy (fun vs H Q E h => ?_) (fun A outer s H vs Q E hr h => ?_)
  · obtain ⟨a, ss, rfl, _⟩ := h
    rfl
  · obtain ⟨a, ss, rfl, row, hl, tabs, q⟩ := h
    refine ⟨_, pss_one (ps_ret (pe_sortKey (T := TT) (iy := 0) rfl (by rfl) so (prg_f (by rfl) rg (pe_callB call_len_seq (by rfl) le PySem.boot_len (pa_cons (pv 0) pa_nil))) (sortKey1 (by decide) (by decide) (by decide)) rfl rfl TB rfl mT hT hr rfl rfl rfl rfl rfl (by decide) (fun _ _ _ _ _ _ => rfl))), ?_⟩
    obtain ⟨us, hu, pu⟩ := id row
    refine ⟨_, rfl, a, us, rfl, .inl (SqL.of hu), _, rfl, a, ss, by rw [pu.length], rfl, row, hl, tabs, fun H2 e t D os o n => q H2 e t D os o n⟩
theorem scOrd : FnScope ["stays"] ["stays"] (defScope sOrd) := ⟨rfl, rfl, rfl, by decide +kernel, rfl, by decide +kernel, by decide +kernel⟩
theorem ok_ord {f c Pt : Addr} {fd : FuncData} {TT : List (Addr × Str)} (F : FunC K "_law_order" "_law_order" sOrd f fd c) (so : mg "sorted" = none) (rg : mg "range" = none) (le : mg "len" = none)
    (TB : TabB base mg c Pt) (hT : ∀ y ∈ TT, y.1 = Pt → y.2 = qOrd) (mT : (Pt, qOrd) ∈ TT) : FnOk P w K mg base CX0 3 f fd ["stays"] (spBy TT) := by
  refine F.ok scOrd (fun vs H Q E h => ?_) (fun A outer s H vs Q E hr h => ?_)
  · obtain ⟨a, ss, rfl, _⟩ := h
    rfl
  · obtain ⟨a, ss, rfl, row, hl, tabs, q⟩ := h
    refine ⟨_, pss_one (ps_ret (pe_sortKey (T := TT) (iy := 0) rfl (by rfl) so (prg_f (by rfl) rg (pe_callB call_len_seq (by rfl) le PySem.boot_len (pa_cons (pv 0) pa_nil))) (sortKey2 (by decide) (by decide) (by decide)) rfl rfl TB rfl mT hT hr rfl rfl rfl rfl rfl (by decide) (fun _ _ _ _ _ _ => rfl))), ?_⟩
    obtain ⟨us, hu, pu⟩ := id row
    refine ⟨_, rfl, a, us, rfl, .inl (SqL.of hu), _, rfl, a, ss, by rw [pu.length], rfl, row, hl, tabs, fun H2 e t D os o n => q H2 e t D os o n⟩
end
end OB
namespace OM
/-! ### stays that wait: one run for the program's way and the law's -/
def up {α : Type} (f : Nat → α) (i : Nat) (v : α) : Nat → α := fun j => if j = i then v else f j
theorem up_same {α : Type} (f : Nat → α) (i : Nat) (v : α) : up f i v i = v := if_pos rfl
theorem up_ne {α : Type} {f : Nat → α} {i j : Nat} {v : α} (h : j ≠ i) : up f i v j = f j := if_neg h
theorem map_up {α : Type} (f : Nat → α) (n i : Nat) (v : α) : ((List.range n).map f).set i v = (List.range n).map (up f i v) := by
  refine List.ext_getElem? fun j => ?_
  by_cases e : i = j
  · subst e
    rw [List.getElem?_set]
    by_cases l : i < n
    · simp [l, up_same]
    · simp [l]
  · rw [List.getElem?_set_ne e]
    by_cases l : j < n
    · simp [l, up_ne (Ne.symm e)]
    · simp [l]
def fminI (fr : List Int) : Int := fr.min?.getD 0
theorem fmin_spec {fr : List Int} (h : fr ≠ []) : fminI fr ∈ fr ∧ ∀ x ∈ fr, fminI fr ≤ x := by
  unfold fminI
  cases e : fr.min? with
  | none => exact absurd (List.min?_eq_none_iff.mp e) h
  | some a => exact List.min?_eq_some_iff.mp e
theorem fmin_eq {fr : List Int} {a : Int} (h1 : a ∈ fr) (h2 : ∀ x ∈ fr, a ≤ x) : fminI fr = a := by
  unfold fminI
  rw [List.min?_eq_some_iff.mpr ⟨h1, h2⟩] <;> rfl
def row {α : Type} (m : Nat) (f : Nat → α) : List α := (List.range m).map f
theorem row_len {α : Type} (m : Nat) (f : Nat → α) : (row m f).length = m := by unfold row; simp
theorem row_at {α : Type} {m : Nat} {f : Nat → α} {k : Nat} (h : k < m) : (row m f)[k]? = some (f k) := by unfold row; simp [h]
theorem row_mem {α : Type} {m : Nat} {f : Nat → α} {x : α} : x ∈ row m f ↔ ∃ k, k < m ∧ f k = x := by unfold row; simp
theorem row_ne {α : Type} {m : Nat} {f : Nat → α} (h : 0 < m) : row m f ≠ [] := fun z => by
  have := row_len m f
  rw [z] at this
  simp at this
  omega
theorem row_set {α : Type} (m i : Nat) (f : Nat → α) (v : α) : (row m f).set i v = row m (up f i v) := map_up f m i v
def dayF (b : Int) (m : Nat) (fr : Nat → Int) : Int := if fminI (row m fr) > b then fminI (row m fr) else b
def plF (d : Int) (m : Nat) (fr : Nat → Int) : Nat := (row m fr).findIdx fun x => decide (x ≤ d)
theorem day_ge {b : Int} {m : Nat} {fr : Nat → Int} : b ≤ dayF b m fr := by unfold dayF; split <;> omega
theorem day_some {b : Int} {m : Nat} {fr : Nat → Int} (h : 0 < m) : ∃ k, k < m ∧ fr k ≤ dayF b m fr := by
  obtain ⟨k, hk, e⟩ := row_mem.mp (fmin_spec (row_ne (f := fr) h)).1
  refine ⟨k, hk, ?_⟩
  unfold dayF
  rw [e]
  split <;> omega
theorem day_least {b : Int} {m : Nat} {fr : Nat → Int} (h : 0 < m) {t : Int} (hb : b ≤ t) (ht : t < dayF b m fr) : ∀ k, k < m → t < fr k := fun k hk => by
  have := (fmin_spec (row_ne (f := fr) h)).2 (fr k) (row_mem.mpr ⟨k, hk, rfl⟩)
  unfold dayF at ht
  split at ht <;> omega
theorem day_min {b : Int} {m : Nat} {fr : Nat → Int} (h : 0 < m) {k : Nat} (hk : k < m) (lt : b < dayF b m fr) : dayF b m fr ≤ fr k := by
  have := day_least (b := b) (fr := fr) h (t := dayF b m fr - 1) (by omega) (by omega) k hk
  omega
theorem pl_spec {d : Int} {m : Nat} {fr : Nat → Int} (h : ∃ k, k < m ∧ fr k ≤ d) : plF d m fr < m ∧ fr (plF d m fr) ≤ d ∧ ∀ j, j < plF d m fr → d < fr j := by
  obtain ⟨k, hk, e⟩ := h
  have lt : plF d m fr < (row m fr).length := List.findIdx_lt_length_of_exists ⟨fr k, row_mem.mpr ⟨k, hk, rfl⟩, by simp [e]⟩
  have lt2 : plF d m fr < m := by rw [row_len] at lt; exact lt
  refine ⟨lt2, ?_, fun j hj => ?_⟩
  · have z := List.findIdx_getElem (w := lt)
    have e2 : (row m fr)[plF d m fr] = fr (plF d m fr) := by
      have := row_at (f := fr) lt2
      rw [List.getElem?_eq_getElem lt] at this
      exact Option.some.inj this
    have z : decide ((row m fr)[plF d m fr] ≤ d) = true := z
    rw [e2] at z
    exact of_decide_eq_true z
  · have z := List.not_of_lt_findIdx hj
    have lj : j < (row m fr).length := Nat.lt_trans hj lt
    have e2 : (row m fr)[j] = fr j := by
      have := row_at (f := fr) (Nat.lt_trans hj lt2)
      rw [List.getElem?_eq_getElem lj] at this
      exact Option.some.inj this
    have z : decide ((row m fr)[j] ≤ d) = false := by simpa using z
    rw [e2] at z
    have := of_decide_eq_false z
    omega
theorem pl_eq {d : Int} {m : Nat} {fr : Nat → Int} {k : Nat} (h1 : k < m) (h2 : fr k ≤ d) (h3 : ∀ j, j < k → d < fr j) : plF d m fr = k := by
  obtain ⟨a, b, c⟩ := pl_spec ⟨k, h1, h2⟩
  rcases Nat.lt_trichotomy (plF d m fr) k with z | z | z
  · have := h3 _ z; omega
  · exact z
  · have := c _ z; omega
def lenS (s : S3) : Int := s.2.1 - s.1 + s.2.2
structure LSt where
  fr : Nat → Int
  ls : Nat → Option Nat
  ds : Nat → Int
  as : Nat → Nat
  cs : Nat → Option Nat
def sOf (ss : List S3) (i : Nat) : S3 := (ss[i]?).getD (0, 0, 0)
def stepW (m : Nat) (s : S3) (i : Nat) (x : LSt) : LSt :=
  let d := dayF s.1 m x.fr
  let k := plF d m x.fr
  ⟨up x.fr k (d + lenS s + 1), up x.ls k (some i), up x.ds i d, up x.as i k, up x.cs i (if d > s.1 then x.ls k else none)⟩
def runW (ss : List S3) (m : Nat) : List Nat → LSt → LSt
  | [], x => x
  | i :: os, x => runW ss m os (stepW m (sOf ss i) i x)
def startW : LSt := ⟨fun _ => 0, fun _ => none, fun _ => 0, fun _ => 0, fun _ => none⟩
/-- what holds behind the stays dn -/
structure InvW (ss : List S3) (m : Nat) (dn : Nat → Prop) (x : LSt) : Prop where
  nn : ∀ k, 0 ≤ x.fr k
  lsn : ∀ k, x.ls k = none → x.fr k = 0
  lss : ∀ k j, x.ls k = some j → dn j ∧ x.as j = k ∧ x.fr k = x.ds j + lenS (sOf ss j) + 1
  hi : ∀ j, dn j → x.as j < m ∧ x.ds j + lenS (sOf ss j) < x.fr (x.as j)
  sep : ∀ i j, dn i → dn j → i ≠ j → x.as i = x.as j → x.ds i + lenS (sOf ss i) < x.ds j ∨ x.ds j + lenS (sOf ss j) < x.ds i
  ge : ∀ i, dn i → (sOf ss i).1 ≤ x.ds i
  cn : ∀ i, dn i → x.ds i = (sOf ss i).1 → x.cs i = none
  cs : ∀ i, dn i → (sOf ss i).1 < x.ds i → ∃ j, x.cs i = some j ∧ dn j ∧ j ≠ i ∧ x.as j = x.as i ∧ x.ds j + lenS (sOf ss j) = x.ds i - 1
theorem InvW.start (ss : List S3) (m : Nat) : InvW ss m (fun _ => False) startW :=
  ⟨fun _ => Int.le_refl _, fun _ _ => rfl, fun _ _ h => (by cases h), fun _ h => h.elim, fun _ _ h => h.elim, fun _ h => h.elim, fun _ h => h.elim, fun _ h => h.elim⟩
theorem len_nn {s : S3} (g : GoodS s) : 0 ≤ lenS s := by
  obtain ⟨a, b, c⟩ := g
  unfold lenS
  omega
theorem InvW.step {ss : List S3} {m : Nat} {dn : Nat → Prop} {x : LSt} {i : Nat} (I : InvW ss m dn x) (h : 0 < m) (g : GoodS (sOf ss i)) (n : ¬ dn i) : InvW ss m (fun j => j = i ∨ dn j) (stepW m (sOf ss i) i x) := by
  obtain ⟨k1, k2, k3⟩ := pl_spec (day_some (b := (sOf ss i).1) (fr := x.fr) h)
  have dge := day_ge (b := (sOf ss i).1) (m := m) (fr := x.fr)
  have dmin : ∀ k, k < m → (sOf ss i).1 < dayF (sOf ss i).1 m x.fr → dayF (sOf ss i).1 m x.fr ≤ x.fr k := fun k hk lt => day_min h hk lt
  unfold stepW
  generalize dayF (sOf ss i).1 m x.fr = d at k1 k2 k3 dge dmin
  dsimp only
  generalize plF d m x.fr = k at k1 k2 k3
  have l0 := len_nn g
  have b0 := g.1
  have ne : ∀ {j}, dn j → j ≠ i := fun hj z => n (z ▸ hj)
  refine ⟨fun q => ?_, fun q e => ?_, fun q j e => ?_, fun j hj => ?_, fun a b ha hb ab e => ?_, fun j hj => ?_, fun j hj e => ?_, fun j hj e => ?_⟩
  all_goals try dsimp only at *
  · by_cases z : q = k
    · subst z; rw [up_same]; omega
    · rw [up_ne z]; exact I.nn q
  · by_cases z : q = k
    · subst z; rw [up_same] at e; cases e
    · rw [up_ne z] at e ⊢; exact I.lsn q e
  · by_cases z : q = k
    · subst z
      rw [up_same] at e
      obtain rfl := Option.some.inj e
      exact ⟨.inl rfl, up_same .., by simp [up_same]⟩
    · rw [up_ne z] at e
      obtain ⟨e1, e2, e3⟩ := I.lss q j e
      exact ⟨.inr e1, by rw [up_ne (ne e1)]; exact e2, by rw [up_ne z, up_ne (ne e1)]; exact e3⟩
  · by_cases z : j = i
    · subst z
      rw [up_same, up_same, up_same]
      exact ⟨k1, by omega⟩
    · have hj : dn j := hj.resolve_left z
      rw [up_ne z, up_ne z]
      obtain ⟨e1, e2⟩ := I.hi j hj
      refine ⟨e1, ?_⟩
      by_cases y : x.as j = k
      · rw [y, up_same]
        rw [y] at e2
        omega
      · rw [up_ne y]; exact e2
  · by_cases za : a = i
    · have hb2 : dn b := hb.resolve_left (fun z => ab (za.trans z.symm))
      have zb := ne hb2
      have h3 := (I.hi b hb2).2
      subst za
      simp only [up_same, up_ne zb] at e ⊢
      have := h3
      rw [← e] at this
      omega
    · have ha2 : dn a := ha.resolve_left za
      have h3 := (I.hi a ha2).2
      by_cases zb : b = i
      · subst zb
        simp only [up_same, up_ne za] at e ⊢
        rw [e] at h3
        omega
      · have hb2 : dn b := hb.resolve_left zb
        simp only [up_ne za, up_ne zb] at e ⊢
        exact I.sep a b ha2 hb2 ab e
  · by_cases z : j = i
    · subst z; rw [up_same]; exact dge
    · rw [up_ne z]; exact I.ge j (hj.resolve_left z)
  · by_cases z : j = i
    · subst z
      rw [up_same] at e ⊢
      rw [if_neg (by omega)]
    · rw [up_ne z] at e ⊢; exact I.cn j (hj.resolve_left z) e
  · by_cases z : j = i
    · subst z
      rw [up_same] at e
      simp only [up_same]
      rw [if_pos e]
      have e1 : x.fr k = d := by
        have := dmin k k1 e
        omega
      cases hl : x.ls k with
      | none =>
        have := I.lsn k hl
        omega
      | some q =>
        obtain ⟨w1, w2, w3⟩ := I.lss k q hl
        refine ⟨q, rfl, .inr w1, ne w1, ?_, ?_⟩
        · rw [up_ne (ne w1), w2]
        · rw [up_ne (ne w1)]; omega
    · have hj : dn j := hj.resolve_left z
      rw [up_ne z] at e
      obtain ⟨q, w1, w2, w3, w4, w5⟩ := I.cs j hj e
      exact ⟨q, by rw [up_ne z]; exact w1, .inr w2, w3, by rw [up_ne z, up_ne (ne w2)]; exact w4, by rw [up_ne z, up_ne (ne w2)]; exact w5⟩
theorem InvW.run {ss : List S3} {m : Nat} (h : 0 < m) : ∀ (os : List Nat) (dn : Nat → Prop) (x : LSt), InvW ss m dn x → (∀ i ∈ os, GoodS (sOf ss i) ∧ ¬ dn i) → os.Nodup → InvW ss m (fun j => j ∈ os ∨ dn j) (runW ss m os x)
  | [], dn, x, I, _, _ => by
    refine ⟨I.nn, I.lsn, fun k j e => ?_, fun j hj => I.hi j (hj.resolve_left (by simp)), fun a b ha hb => I.sep a b (ha.resolve_left (by simp)) (hb.resolve_left (by simp)), fun j hj => I.ge j (hj.resolve_left (by simp)), fun j hj => I.cn j (hj.resolve_left (by simp)), fun j hj e => ?_⟩
    · obtain ⟨a, b, c⟩ := I.lss k j e
      exact ⟨.inr a, b, c⟩
    · obtain ⟨q, w1, w2, w3⟩ := I.cs j (hj.resolve_left (by simp)) e
      exact ⟨q, w1, .inr w2, w3⟩
  | i :: os, dn, x, I, hg, nd => by
    obtain ⟨n1, n2⟩ := List.nodup_cons.mp nd
    obtain ⟨g, nn⟩ := hg i (List.mem_cons_self ..)
    have J := InvW.run h os (fun j => j = i ∨ dn j) _ (I.step h g nn) (fun j hj => ⟨(hg j (List.mem_cons_of_mem _ hj)).1, fun z => z.elim (fun e => n1 (e ▸ hj)) (hg j (List.mem_cons_of_mem _ hj)).2⟩) n2
    have e : (fun j => j ∈ i :: os ∨ dn j) = (fun j => j ∈ os ∨ j = i ∨ dn j) := by
      funext j
      simp only [List.mem_cons, eq_iff_iff]
      constructor
      · rintro ((a | a) | a)
        · exact .inr (.inl a)
        · exact .inl a
        · exact .inr (.inr a)
      · rintro (a | a | a)
        · exact .inl (.inr a)
        · exact .inl (.inl a)
        · exact .inr a
    rw [e]
    exact J
/-! ### one address more -/
def cntW (m : Nat) (fr : Nat → Int) (t : Int) : Nat := (List.range m).countP fun k => decide (fr k ≤ t)
theorem cnt_succ (m : Nat) (fr : Nat → Int) (t : Int) : cntW (m + 1) fr t = cntW m fr t + if fr m ≤ t then 1 else 0 := by
  unfold cntW
  rw [List.range_succ, List.countP_append]
  by_cases z : fr m ≤ t
  · simp [z]
  · simp [z]
theorem cnt_up_out {m k : Nat} {fr : Nat → Int} {v t : Int} (h : m ≤ k) : cntW m (up fr k v) t = cntW m fr t := by
  induction m with
  | zero => rfl
  | succ m ih => rw [cnt_succ, cnt_succ, ih (by omega), up_ne (show m ≠ k by omega)]
theorem cnt_up {m k : Nat} {fr : Nat → Int} {v t : Int} (h : k < m) : cntW m (up fr k v) t + (if fr k ≤ t then 1 else 0) = cntW m fr t + if v ≤ t then 1 else 0 := by
  induction m with
  | zero => omega
  | succ m ih =>
    rw [cnt_succ, cnt_succ]
    by_cases z : k = m
    · subst z
      rw [cnt_up_out (Nat.le_refl _), up_same]
      omega
    · have := ih (by omega)
      rw [up_ne (show m ≠ k from fun y => z y.symm)]
      omega
theorem cnt_zero {m : Nat} {fr : Nat → Int} {t : Int} (h : ∀ k, k < m → t < fr k) : cntW m fr t = 0 := by
  induction m with
  | zero => rfl
  | succ m ih =>
    rw [cnt_succ, ih fun k hk => h k (by omega), if_neg (by have := h m (by omega); omega)]
theorem cnt_pos {m k : Nat} {fr : Nat → Int} {t : Int} (h : k < m) (e : fr k ≤ t) : 0 < cntW m fr t := by
  induction m with
  | zero => omega
  | succ m ih =>
    rw [cnt_succ]
    by_cases z : k = m
    · subst z
      rw [if_pos e]
      omega
    · have := ih (by omega)
      omega
theorem cnt_of {m : Nat} {fr : Nat → Int} {t : Int} (h : 0 < cntW m fr t) : ∃ k, k < m ∧ fr k ≤ t := by
  refine Classical.byContradiction fun z => ?_
  have : cntW m fr t = 0 := cnt_zero fun k hk => by
    refine Classical.byContradiction fun y => z ⟨k, hk, by omega⟩
  omega
theorem more_run {ss : List S3} {m m2 : Nat} (h : 0 < m) (h2 : 0 < m2) : ∀ (os : List Nat) (x y : LSt) (b0 : Int), (∀ t, b0 ≤ t → cntW m x.fr t ≤ cntW m2 y.fr t) → (∀ i ∈ os, b0 ≤ (sOf ss i).1 ∧ 0 ≤ lenS (sOf ss i)) → (os.Pairwise fun i j => (sOf ss i).1 ≤ (sOf ss j).1) → (∀ j, y.ds j ≤ x.ds j) → ∀ j, (runW ss m2 os y).ds j ≤ (runW ss m os x).ds j
  | [], x, y, b0, _, _, _, d => d
  | i :: os, x, y, b0, c, hb, pw, d => by
    obtain ⟨p1, p2⟩ := List.pairwise_cons.mp pw
    obtain ⟨hb0, l0⟩ := hb i (List.mem_cons_self ..)
    have dx := day_some (b := (sOf ss i).1) (fr := x.fr) h
    have dy := day_some (b := (sOf ss i).1) (fr := y.fr) h2
    have gx := day_ge (b := (sOf ss i).1) (m := m) (fr := x.fr)
    have gy := day_ge (b := (sOf ss i).1) (m := m2) (fr := y.fr)
    have lx := fun (t : Int) => day_least (b := (sOf ss i).1) (fr := x.fr) h (t := t)
    have ly := fun (t : Int) => day_least (b := (sOf ss i).1) (fr := y.fr) h2 (t := t)
    obtain ⟨a1, a2, a3⟩ := pl_spec dx
    obtain ⟨e1, e2, e3⟩ := pl_spec dy
    have le : dayF (sOf ss i).1 m2 y.fr ≤ dayF (sOf ss i).1 m x.fr := by
      refine Classical.byContradiction fun z => ?_
      have := cnt_zero (ly (dayF (sOf ss i).1 m x.fr) gx (by omega))
      obtain ⟨k, hk, e⟩ := dx
      have := cnt_pos hk e
      have := c (dayF (sOf ss i).1 m x.fr) (by omega)
      omega
    refine more_run h h2 os _ _ (sOf ss i).1 (fun t ht => ?_) (fun j hj => ⟨p1 j hj, (hb j (List.mem_cons_of_mem _ hj)).2⟩) p2 (fun j => ?_)
    · unfold stepW
      dsimp only
      generalize dayF (sOf ss i).1 m x.fr = d1 at *
      generalize dayF (sOf ss i).1 m2 y.fr = d2 at *
      generalize plF d1 m x.fr = k1 at *
      generalize plF d2 m2 y.fr = k2 at *
      have u1 := cnt_up (m := m) (fr := x.fr) (v := d1 + lenS (sOf ss i) + 1) (t := t) a1
      have u2 := cnt_up (m := m2) (fr := y.fr) (v := d2 + lenS (sOf ss i) + 1) (t := t) e1
      have cc := c t (by omega)
      by_cases q : t < d1
      · have z := lx t ht q
        have := cnt_zero z
        have := z k1 a1
        rw [if_neg (by omega)] at u1
        by_cases w : d1 + lenS (sOf ss i) + 1 ≤ t
        · by_cases w2 : d2 + lenS (sOf ss i) + 1 ≤ t
          · rw [if_pos w] at u1
            rw [if_pos w2] at u2
            split at u2 <;> omega
          · omega
        · rw [if_neg w] at u1
          omega
      · rw [if_pos (by omega)] at u1 u2
        split at u1 <;> split at u2 <;> omega
    · unfold stepW
      dsimp only
      by_cases z : j = i
      · subst z; rw [up_same, up_same]; exact le
      · rw [up_ne z, up_ne z]; exact d j
/-! ### as many addresses as stays -/
theorem day_zero {b : Int} {m c : Nat} {fr : Nat → Int} (hc : c < m) (e : fr c = 0) (b0 : 0 ≤ b) : dayF b m fr = b ∧ plF b m fr ≤ c := by
  have d : dayF b m fr = b := by
    have := (fmin_spec (row_ne (f := fr) (by omega : 0 < m))).2 (fr c) (row_mem.mpr ⟨c, hc, rfl⟩)
    unfold dayF
    rw [if_neg (by omega)]
  refine ⟨d, ?_⟩
  obtain ⟨_, _, k3⟩ := pl_spec (d := b) (m := m) (fr := fr) ⟨c, hc, by omega⟩
  refine Classical.byContradiction fun z => ?_
  have := k3 c (by omega)
  omega
theorem time_run {ss : List S3} {m : Nat} : ∀ (os : List Nat) (x : LSt) (c : Nat), (∀ k, c ≤ k → k < m → x.fr k = 0) → c + os.length ≤ m → (∀ i ∈ os, 0 ≤ (sOf ss i).1) → os.Nodup → ∀ j, (j ∈ os → (runW ss m os x).ds j = (sOf ss j).1) ∧ (j ∉ os → (runW ss m os x).ds j = x.ds j)
  | [], x, c, _, _, _, _, j => ⟨fun h => (by cases h), fun _ => rfl⟩
  | i :: os, x, c, z, l, b, nd, j => by
    obtain ⟨n1, n2⟩ := List.nodup_cons.mp nd
    rw [List.length_cons] at l
    obtain ⟨d1, d2⟩ := day_zero (fr := x.fr) (by omega : c < m) (z c (Nat.le_refl _) (by omega)) (b i (List.mem_cons_self ..))
    have ih := time_run os (stepW m (sOf ss i) i x) (c + 1) (fun k h1 h2 => by
      unfold stepW
      dsimp only
      rw [d1, up_ne (by omega)]
      exact z k (by omega) h2) (by omega) (fun i hi => b i (List.mem_cons_of_mem _ hi)) n2 j
    refine ⟨fun h => ?_, fun h => ?_⟩
    · rcases List.mem_cons.mp h with e | e
      · subst e
        have := ih.2 n1
        show (runW ss m os _).ds j = _
        rw [this]
        unfold stepW
        dsimp only
        rw [up_same, d1]
      · exact ih.1 e
    · have := ih.2 (fun e => h (List.mem_cons_of_mem _ e))
      show (runW ss m os _).ds j = _
      rw [this]
      unfold stepW
      dsimp only
      rw [up_ne (fun e => h (by rw [e]; exact List.mem_cons_self ..))]
structure ClipW (m r c : Nat) (x y : LSt) : Prop where
  fr : ∀ k, k < m → y.fr k = x.fr k
  fz : ∀ k, m ≤ k → k < m + r → y.fr k = 0
  ls : ∀ k, k < m → y.ls k = x.ls k
  xz : ∀ k, c ≤ k → k < m → x.fr k = 0
  ds : y.ds = x.ds
  as : y.as = x.as
  cs : y.cs = x.cs
theorem clip_run {ss : List S3} {m r : Nat} : ∀ (os : List Nat) (x y : LSt) (c : Nat), ClipW m r c x y → c + os.length ≤ m → (∀ i ∈ os, 0 ≤ (sOf ss i).1) → (runW ss (m + r) os y).ds = (runW ss m os x).ds ∧ (runW ss (m + r) os y).as = (runW ss m os x).as ∧ (runW ss (m + r) os y).cs = (runW ss m os x).cs
  | [], x, y, c, C, _, _ => ⟨C.ds, C.as, C.cs⟩
  | i :: os, x, y, c, C, l, b => by
    rw [List.length_cons] at l
    have hc : c < m := by omega
    have b0 := b i (List.mem_cons_self ..)
    have z := C.xz c (Nat.le_refl _) hc
    obtain ⟨d1, d2⟩ := day_zero (fr := x.fr) hc z b0
    obtain ⟨d3, d4⟩ := day_zero (m := m + r) (fr := y.fr) (by omega : c < m + r) (by rw [C.fr c hc]; exact z) b0
    obtain ⟨k1, k2, k3⟩ := pl_spec (d := (sOf ss i).1) (m := m) (fr := x.fr) ⟨c, hc, by omega⟩
    have pe : plF (sOf ss i).1 (m + r) y.fr = plF (sOf ss i).1 m x.fr := by
      refine pl_eq (by omega) (by rw [C.fr _ k1]; exact k2) fun j hj => ?_
      rw [C.fr j (by omega)]
      exact k3 j hj
    refine clip_run os (stepW m (sOf ss i) i x) (stepW (m + r) (sOf ss i) i y) (c + 1) ⟨fun k hk => ?_, fun k h1 h2 => ?_, fun k hk => ?_, fun k h1 h2 => ?_, ?_, ?_, ?_⟩ (by omega) (fun j hj => b j (List.mem_cons_of_mem _ hj))
    all_goals
      unfold stepW
      dsimp only
      simp only [d1, d3, pe]
    · unfold up
      rw [C.fr k hk]
    · rw [up_ne (by omega)]
      exact C.fz k h1 h2
    · unfold up
      rw [C.ls k hk]
    · rw [up_ne (by omega)]
      exact C.xz k (by omega) h2
    · rw [C.ds]
    · rw [C.as]
    · rw [C.cs, C.ls _ k1]
end OM
namespace OM
theorem sOf_at {ss : List S3} {i : Nat} {s : S3} (h : ss[i]? = some s) : sOf ss i = s := by
  unfold sOf
  rw [h] <;> rfl
theorem sOf_mem {ss : List S3} {i : Nat} (h : i < ss.length) : sOf ss i ∈ ss := by
  rw [sOf_at (List.getElem?_eq_getElem h)]
  exact List.getElem_mem h
theorem sOf_beg (ss : List S3) (i : Nat) : OB.begs ss i = (sOf ss i).1 := by
  unfold sOf OB.begs
  cases ss[i]? <;> rfl
def leO (b : Nat → Int) (i j : Nat) : Bool := decide (b i < b j) || (decide (b i = b j) && decide (i ≤ j))
theorem leO_iff {b : Nat → Int} {i j : Nat} : leO b i j = true ↔ b i < b j ∨ (b i = b j ∧ i ≤ j) := by
  unfold leO
  rw [Bool.or_eq_true, Bool.and_eq_true, decide_eq_true_iff, decide_eq_true_iff, decide_eq_true_iff]
def ordS (ss : List S3) : List Nat := (List.range ss.length).mergeSort (leO (OB.begs ss))
theorem ordS_ok (ss : List S3) : Order (OB.begs ss) ss.length (ordS ss) := by
  have p : (ordS ss).Perm (List.range ss.length) := List.mergeSort_perm _ _
  have nd : (ordS ss).Nodup := p.nodup_iff.mpr List.nodup_range
  have pw : (ordS ss).Pairwise (fun i j => leO (OB.begs ss) i j = true) := by
    refine List.pairwise_mergeSort (fun i j k h1 h2 => ?_) (fun i j => ?_) _
    · rw [leO_iff] at *
      omega
    · rw [Bool.or_eq_true, leO_iff, leO_iff]
      omega
  refine ⟨p, (pw.and nd).imp fun {i j} h => ?_⟩
  obtain ⟨h1, h2⟩ := h
  rw [leO_iff] at h1
  unfold Ahead
  omega
def refW (ss : List S3) (m : Nat) : LSt := runW ss m (ordS ss) startW
theorem ord_mem (ss : List S3) (i : Nat) : i ∈ ordS ss ↔ i < ss.length := by rw [(ordS_ok ss).perm.mem_iff, List.mem_range]
theorem ord_nd (ss : List S3) : (ordS ss).Nodup := (ordS_ok ss).perm.nodup_iff.mpr List.nodup_range
theorem ord_len (ss : List S3) : (ordS ss).length = ss.length := by rw [(ordS_ok ss).perm.length_eq, List.length_range]
theorem ref_inv {ss : List S3} {m : Nat} (g : ∀ s ∈ ss, GoodS s) (h : 0 < m) : InvW ss m (fun j => j < ss.length) (refW ss m) := by
  have I := InvW.run h (ordS ss) _ _ (InvW.start ss m) (fun i hi => ⟨g _ (sOf_mem ((ord_mem ss i).mp hi)), fun z => z⟩) (ord_nd ss)
  have e : (fun j => j ∈ ordS ss ∨ False) = fun j => j < ss.length := by
    funext j
    rw [or_false, ord_mem]
  rw [e] at I
  exact I
theorem ref_more {ss : List S3} {m : Nat} (g : ∀ s ∈ ss, GoodS s) (h : 0 < m) (j : Nat) : (refW ss (m + 1)).ds j ≤ (refW ss m).ds j := by
  refine more_run h (Nat.succ_pos m) (ordS ss) startW startW 0 (fun t ht => ?_) (fun i hi => ?_) ?_ (fun j => Int.le_refl _) j
  · rw [cnt_succ]
    omega
  · have := g _ (sOf_mem ((ord_mem ss i).mp hi))
    exact ⟨this.1, len_nn this⟩
  · refine (ordS_ok ss).asc.imp fun {i j} h => ?_
    unfold Ahead at h
    rw [sOf_beg, sOf_beg] at h
    omega
theorem ref_time {ss : List S3} {m : Nat} (g : ∀ s ∈ ss, GoodS s) (h : ss.length ≤ m) {j : Nat} (hj : j < ss.length) : (refW ss m).ds j = (sOf ss j).1 :=
  (time_run (ordS ss) startW 0 (fun _ _ _ => rfl) (by rw [ord_len]; omega) (fun i hi => (g _ (sOf_mem ((ord_mem ss i).mp hi))).1) (ord_nd ss) j).1 ((ord_mem ss j).mpr hj)
def capW (m n : Nat) : Nat := min m (max 1 n)
theorem ref_cap {ss : List S3} {m : Nat} (g : ∀ s ∈ ss, GoodS s) (h : 0 < m) : (refW ss m).ds = (refW ss (capW m ss.length)).ds ∧ (refW ss m).as = (refW ss (capW m ss.length)).as ∧ (refW ss m).cs = (refW ss (capW m ss.length)).cs := by
  by_cases z : m ≤ max 1 ss.length
  · have : capW m ss.length = m := by unfold capW; omega
    rw [this]
    exact ⟨rfl, rfl, rfl⟩
  · obtain ⟨r, hr⟩ : ∃ r, m = max 1 ss.length + r := ⟨m - max 1 ss.length, by omega⟩
    have : capW m ss.length = max 1 ss.length := by unfold capW; omega
    rw [this, hr]
    exact clip_run (ordS ss) startW startW 0 ⟨fun _ _ => rfl, fun _ _ _ => rfl, fun _ _ => rfl, fun _ _ _ => rfl, rfl, rfl, rfl⟩ (by rw [ord_len]; omega) (fun i hi => (g _ (sOf_mem ((ord_mem ss i).mp hi))).1)
/-! ### the law's days -/
def fo : Option Int → Int
  | none => 0
  | some l => l + 1
def daysL (b : Int) : Option Int → Int
  | none => b
  | some l => if l + 1 > b then l + 1 else b
theorem daysL_eq {b : Int} (nn : 0 ≤ b) (o : Option Int) : daysL b o = if fo o > b then fo o else b := by
  cases o with
  | none =>
    show b = if 0 > b then 0 else b
    rw [if_neg (by omega)]
  | some l => rfl
theorem law_day {b : Int} {m : Nat} {fr : Nat → Int} {bd : Nat → Option Int} (h : 0 < m) (nn : 0 ≤ b) (rel : ∀ k, k < m → fr k = fo (bd k)) :
    (∀ k, k < m → dayF b m fr ≤ daysL b (bd k)) ∧ plF (dayF b m fr) m fr < m ∧ daysL b (bd (plF (dayF b m fr) m fr)) = dayF b m fr ∧ ∀ j, j < plF (dayF b m fr) m fr → daysL b (bd j) ≠ dayF b m fr := by
  obtain ⟨k1, k2, k3⟩ := pl_spec (day_some (b := b) (fr := fr) h)
  have ge := day_ge (b := b) (m := m) (fr := fr)
  have mn : ∀ k, k < m → b < dayF b m fr → dayF b m fr ≤ fr k := fun k hk lt => day_min h hk lt
  generalize dayF b m fr = d at *
  generalize plF d m fr = k at *
  have all : ∀ k, k < m → d ≤ daysL b (bd k) := fun k hk => by
    rw [daysL_eq nn, ← rel k hk]
    by_cases z : b < d
    · have := mn k hk z
      split <;> omega
    · split <;> omega
  refine ⟨all, k1, ?_, fun j hj => ?_⟩
  · rw [daysL_eq nn, ← rel k k1]
    by_cases z : b < d
    · have := mn k k1 z
      split <;> omega
    · split <;> omega
  · rw [daysL_eq nn, ← rel j (by omega)]
    have := k3 j hj
    split <;> omega
theorem law_min {b : Int} {m : Nat} {fr : Nat → Int} {bd : Nat → Option Int} (h : 0 < m) (nn : 0 ≤ b) (rel : ∀ k, k < m → fr k = fo (bd k)) : fminI (row m fun k => daysL b (bd k)) = dayF b m fr := by
  obtain ⟨a1, a2, a3, _⟩ := law_day h nn rel
  refine fmin_eq (row_mem.mpr ⟨_, a2, a3⟩) fun x mx => ?_
  obtain ⟨k, hk, rfl⟩ := row_mem.mp mx
  exact a1 k hk
/-! ### who is in the way -/
inductive Back (cs : Nat → Option Nat) : Nat → List Nat → Prop where
  | one {i} (h : cs i = none) : Back cs i [i]
  | more {i j xs} (h : cs i = some j) (r : Back cs j xs) : Back cs i (i :: xs)
theorem Back.det {cs : Nat → Option Nat} {i : Nat} {xs ys : List Nat} (h : Back cs i xs) (g : Back cs i ys) : xs = ys := by
  induction h generalizing ys with
  | one h =>
    cases g with
    | one _ => rfl
    | more g _ => rw [h] at g; cases g
  | more h r ih =>
    cases g with
    | one g => rw [h] at g; cases g
    | more g r2 =>
      rw [h] at g
      obtain rfl := Option.some.inj g
      rw [ih r2]
theorem filter_none {p : Nat → Bool} {n : Nat} (h : ∀ k, k < n → p k = false) : (List.range n).filter p = [] :=
  List.filter_eq_nil_iff.mpr fun x mx => by rw [h x (List.mem_range.mp mx)]; simp
theorem filter_one {p : Nat → Bool} : ∀ {n j : Nat}, j < n → (∀ k, k < n → (p k = true ↔ k = j)) → (List.range n).filter p = [j]
  | 0, _, h, _ => by omega
  | n + 1, j, h, e => by
    rw [List.range_succ, List.filter_append]
    by_cases z : j = n
    · subst z
      rw [filter_none fun k hk => by
        rw [Bool.eq_false_iff]
        intro y
        have := (e k (by omega)).mp y
        omega]
      have : p j = true := (e j (by omega)).mpr rfl
      simp [this]
    · rw [filter_one (by omega) fun k hk => e k (by omega)]
      have : p n = false := by
        rw [Bool.eq_false_iff]
        intro y
        have := (e n (by omega)).mp y
        omega
      simp [this]
def aheadB (ss : List S3) (x : LSt) (i k : Nat) : Bool := decide (k ≠ i) && (decide (x.as k = x.as i) && decide (x.ds k + (sOf ss k).2.1 - (sOf ss k).1 + (sOf ss k).2.2 = x.ds i - 1))
theorem ahead_one {ss : List S3} {m : Nat} (g : ∀ s ∈ ss, GoodS s) (h : 0 < m) {i : Nat} (hi : i < ss.length) (lt : (sOf ss i).1 < (refW ss m).ds i) :
    ∃ j, (refW ss m).cs i = some j ∧ j < ss.length ∧ (refW ss m).ds j < (refW ss m).ds i ∧ (List.range ss.length).filter (aheadB ss (refW ss m) i) = [j] := by
  have I := ref_inv g h
  obtain ⟨j, w1, w2, w3, w4, w5⟩ := I.cs i hi lt
  have l0 : ∀ {k}, k < ss.length → 0 ≤ lenS (sOf ss k) := fun hk => len_nn (g _ (sOf_mem hk))
  have lj := l0 w2
  refine ⟨j, w1, w2, by omega, filter_one w2 fun k hk => ?_⟩
  unfold aheadB
  rw [Bool.and_eq_true, Bool.and_eq_true, decide_eq_true_iff, decide_eq_true_iff, decide_eq_true_iff]
  unfold lenS at w5
  constructor
  · rintro ⟨a, b, c⟩
    refine Classical.byContradiction fun z => ?_
    have lk := l0 hk
    have := I.sep k j hk w2 z (by rw [b, w4])
    unfold lenS at *
    omega
  · rintro rfl
    exact ⟨w3, w4, by omega⟩
theorem no_cause {ss : List S3} {m : Nat} (g : ∀ s ∈ ss, GoodS s) (h : 0 < m) {i : Nat} (hi : i < ss.length) : (refW ss m).cs i = none ↔ ¬ (sOf ss i).1 < (refW ss m).ds i := by
  have I := ref_inv g h
  constructor
  · intro z lt
    obtain ⟨j, w1, _⟩ := I.cs i hi lt
    rw [z] at w1
    cases w1
  · intro z
    have := I.ge i hi
    exact I.cn i hi (by omega)
/-! ### how late the latest is -/
def lateL (ss : List S3) (m : Nat) : List Int := row ss.length fun i => (refW ss m).ds i - (sOf ss i).1
def worstW (ss : List S3) (m : Nat) : Int := ((0 :: lateL ss m).max?).getD 0
theorem worst_spec (ss : List S3) (m : Nat) : worstW ss m ∈ 0 :: lateL ss m ∧ ∀ x ∈ 0 :: lateL ss m, x ≤ worstW ss m := by
  unfold worstW
  cases e : (0 :: lateL ss m).max? with
  | none => exact absurd (List.max?_eq_none_iff.mp e) (by simp)
  | some a => exact List.max?_eq_some_iff.mp e
theorem worst_eq {ss : List S3} {m : Nat} {a : Int} (h1 : a ∈ 0 :: lateL ss m) (h2 : ∀ x ∈ 0 :: lateL ss m, x ≤ a) : worstW ss m = a := by
  unfold worstW
  rw [List.max?_eq_some_iff.mpr ⟨h1, h2⟩] <;> rfl
theorem worst_nn (ss : List S3) (m : Nat) : 0 ≤ worstW ss m := (worst_spec ss m).2 0 (List.mem_cons_self ..)
theorem worst_time {ss : List S3} {m : Nat} (g : ∀ s ∈ ss, GoodS s) (h : ss.length ≤ m) : worstW ss m = 0 := by
  refine worst_eq (List.mem_cons_self ..) fun x mx => ?_
  rcases List.mem_cons.mp mx with e | e
  · omega
  · obtain ⟨k, hk, rfl⟩ := row_mem.mp e
    rw [ref_time g h hk]
    omega
def LeastM (ss : List S3) (late : Int) (m : Nat) : Prop := 1 ≤ m ∧ worstW ss m ≤ late ∧ ∀ k, 1 ≤ k → k < m → late < worstW ss k
theorem LeastM.one {ss : List S3} {late : Int} {m k : Nat} (h : LeastM ss late m) (g : LeastM ss late k) : m = k := by
  obtain ⟨a1, a2, a3⟩ := h
  obtain ⟨b1, b2, b3⟩ := g
  rcases Nat.lt_trichotomy m k with z | z | z
  · have := b3 m a1 z; omega
  · exact z
  · have := a3 k b1 z; omega
end OM
/-! a call of a variable that holds one of several defs, each of which may raise -/
namespace OB
open PySem PySem.Spec PyProof.Rows L2
structure HeldX (P : Program) (w : World) (K : PySem.W.Frag) (mg : Str → Option Value) (base : Heap) (CX : CXT) (k : Nat) (f : Addr) (sp : Sp) : Prop where
  ex : ∃ (fd : FuncData) (ps : List Str), FnOk P w K mg base CX k f fd ps sp ∧ PySem.W.keepIn K (.ref f) = true ∧ Binds K fd ps []
def tCallAS (i : Nat) (S : Addr → Option Sp) (E : L2.St → XK) (t : TA) : TE := fun σ H Q => ∃ f sp, σ[i]? = some (some (.ref f)) ∧ S f = some sp ∧ t σ H fun vs H1 => sp vs H1 Q (E σ)
section
variable {X : Cx} {CX : CXT} {k i : Nat} {E : L2.St → XK} {x : Str} {p pos : Pos} {e : Expr} {es : List Expr} {t : TA}
theorem pe_callAS {S : Addr → Option Sp} (A : ∀ f sp, S f = some sp → HeldX X.prog X.w X.K X.mg X.base CX k f sp) (hr : Room k X.A) (hN : X.N[i]? = some x) (hv : Vis X.env.scope x) (hx : ∀ σ, PassesAt CX X σ (E σ)) (ha : PA X (e :: es) t)
    (hdb : (x == ("__debug__" : Str)) = false := by decide) (hcd : (x == ("__classdict__" : Str)) = false := by decide)
    (he : starEach (e :: es) X.env = (false, eval e X.env) :: starEach es X.env := by rfl) (hpl : (backTo pos (starEach es X.env)).any (·.1) = false := by rfl) : PE X (.Call (.Name x p) (e :: es) [] pos) (tCallAS i S E t) := by
  refine ⟨fun pins s σ H Q I h => ?_⟩
  obtain ⟨f, sp, hs, hS, ht⟩ := h
  obtain ⟨fd, ps, F, hk, hb⟩ := (A f sp hS).ex
  refine wpAny_Call_Name_kw (thn ((pe_var (pos := p) hN hv hdb hcd).run pins s σ H (fun v H1 => v = .ref f ∧ H1 = H) I ⟨.ref f, hs, rfl, rfl⟩) fun u s1 ⟨v, H1, I1, r1, q1⟩ => ?_)
  obtain ⟨rfl, rfl⟩ := q1
  cases r1
  refine PySem.W.callWith_K (h₀ := X.base) I.ok.mod.kin hk (thn (ha.run pos pins s1 σ _ _ I1 ht) fun us s2 ⟨vs, H2, I2, r, q⟩ => ⟨I2.kIn, ?_⟩) he hpl
  exact run_fnS F hr hb (hx σ) I2 r q
end
end OB
namespace OB
open PySem PySem.Spec PyProof.Rows L2 LamX
abbrev sIsOne : Stmt := top 3
abbrev sCkOne : Stmt := top 19
/-! ### a call of a variable that holds a def which may raise -/
def tCallAH (P : Program) (w : World) (K : PySem.W.Frag) (mg : Str → Option Value) (base : Heap) (CX : CXT) (k i : Nat) (E : L2.St → XK) (t : TA) : TE := fun σ H Q => ∃ f sp, σ[i]? = some (some (.ref f)) ∧ HeldX P w K mg base CX k f sp ∧ t σ H fun vs H1 => sp vs H1 Q (E σ)
section
variable {X : Cx} {CX : CXT} {k i : Nat} {E : L2.St → XK} {x : Str} {p pos : Pos} {e : Expr} {es : List Expr} {t : TA}
theorem pe_callAH (hr : Room k X.A) (hN : X.N[i]? = some x) (hv : Vis X.env.scope x) (hx : ∀ σ, PassesAt CX X σ (E σ)) (ha : PA X (e :: es) t)
    (hdb : (x == ("__debug__" : Str)) = false := by decide) (hcd : (x == ("__classdict__" : Str)) = false := by decide)
    (he : starEach (e :: es) X.env = (false, eval e X.env) :: starEach es X.env := by rfl) (hpl : (backTo pos (starEach es X.env)).any (·.1) = false := by rfl) : PE X (.Call (.Name x p) (e :: es) [] pos) (tCallAH X.prog X.w X.K X.mg X.base CX k i E t) := by
  refine ⟨fun pins s σ H Q I h => ?_⟩
  obtain ⟨f, sp, hs, hS, ht⟩ := h
  obtain ⟨fd, ps, F, hk, hb⟩ := hS.ex
  refine wpAny_Call_Name_kw (thn ((pe_var (pos := p) hN hv hdb hcd).run pins s σ H (fun v H1 => v = .ref f ∧ H1 = H) I ⟨.ref f, hs, rfl, rfl⟩) fun u s1 ⟨v, H1, I1, r1, q1⟩ => ?_)
  obtain ⟨rfl, rfl⟩ := q1
  cases r1
  refine PySem.W.callWith_K (h₀ := X.base) I.ok.mod.kin hk (thn (ha.run pos pins s1 σ _ _ I1 ht) fun us s2 ⟨vs, H2, I2, r, q⟩ => ⟨I2.kIn, ?_⟩) he hpl
  exact run_fnS F hr hb (hx σ) I2 r q
end
theorem FS.bs {TT : List (Addr × Str)} {p F : Addr} {n m : Nat} {H0 G G' : Hp} {rs : List V} {ws : List (Str × V)} (h : FS TT p n H0 F rs ws G) (e : ButS p G G') (S : Src m G' p) : FS TT p m H0 F rs ws G' :=
  ⟨h.s.bs e S, h.new, h.np, e _ _ h.np h.at_, Paired.imp (fun r y z => by
    obtain ⟨T, er, hT⟩ := z
    refine ⟨T, er, e _ _ (fun w => ?_) hT⟩
    obtain ⟨a, b, c, hp, _⟩ := h.s.src
    rw [w, hp] at hT
    simp at hT) h.res, h.notF⟩
theorem val_mid {t : TE} {σ : L2.St} {H : Hp} {Q : VK} (Cond : V → Hp → Prop) (h1 : ∀ K : VK, (∀ v G, Cond v G → K v G) → t σ H K) (h2 : ∀ v G, Cond v G → Q v G) : t σ H Q := h1 Q h2
theorem ixN_nat {n k : Nat} (h : k < n) : ixN n ((k : Nat) : Int) = some k := by
  unfold ixN
  rw [if_pos (by omega), if_pos (by omega)]
  simp
/-- from 1 on -/
def oneV (x : V) : Bool := match x with
  | .int i => decide (1 ≤ i)
  | _ => false
theorem oneV_eq (x : V) (k : Kd) : numFrom 1 x k = oneV x := by cases x <;> rfl
def spOne (K : PySem.W.Frag) (C : Addr) : Sp := fun vs H Q E => ∃ (v : V) (k : Kd), vs = [v] ∧ Any K H v k ∧ (oneV v = false → Bad E H C "many" v) ∧ (oneV v = true → ∀ H', Same H H' → Q .non H')
section
variable {P : Program} {w : World} {K : PySem.W.Frag} {mg : Str → Option Value} {base : Heap}
theorem scIsOne : FnScope ["thing"] ["thing"] (defScope sIsOne) := ⟨rfl, rfl, rfl, by decide +kernel, rfl, by decide +kernel, by decide +kernel⟩
theorem ok_isOne {f fI : Addr} {fd fdI : FuncData} (F : Fun K "is_from_one" "is_from_one" sIsOne f fd) (FI : Fun K "is_integer" "is_integer" sIsInt fI fdI) (gI : mg "is_integer" = some (.ref fI)) (T : TxtC mg) : FnOk P w K mg base CX0 2 f fd ["thing"] (spAsk K (numFrom 1)) := by
  have GI : FnOk P w K mg base CX0 1 fI fdI ["thing"] (spAsk K fInt) := ok_isInt FI T
  have bI : Binds K fdI ["thing"] [] := FI.binds fun _ _ _ _ _ _ us hl => match us, hl with | [_], _ => rfl
  refine F.ok scIsOne (fun vs H Q E h => ?_) (fun cdv A outer s H vs Q E hr h => ?_)
  · obtain ⟨v, k, rfl, _⟩ := h
    rfl
  · obtain ⟨v, k, rfl, a, q⟩ := h
    refine ⟨_, pss_one (ps_ret (pe_and (pe_call GI hr (by rfl) gI FI.kp bI .nil pass0 (pa_cons (pv 0) pa_nil)) (pe_one (pe_cmpR op_ge (pv 0) pe_int (nomark _))))), ?_⟩
    refine ⟨_, rfl, v, k, rfl, a, fun H' e => ⟨_, rfl, ?_⟩⟩
    have q' := q H' e
    cases a with
    | int i => exact iteT ⟨_, rfl, i, 1, rfl, rfl, q'⟩
    | _ => exact iteF q'
theorem scCkOne : FnScope ["many"] ["many"] (defScope sCkOne) := ⟨rfl, rfl, rfl, by decide +kernel, rfl, by decide +kernel, by decide +kernel⟩
theorem ok_one {f fN C fI : Addr} {fd fdN : FuncData} (F : Fun K "check_from_one" "check_from_one" sCkOne f fd)
    (GN : FnOk P w K mg base CX0 2 fN fdN ["thing"] (spAsk K (numFrom 1))) (gN : mg "is_from_one" = some (.ref fN)) (kN : PySem.W.keepIn K (.ref fN) = true) (bN : Binds K fdN ["thing"] [])
    (EA : ErrK P K mg "BadMany" C fI "many") (htop : (P.main.scope.names.lookup ("super" : Str)).isSome = false) : FnOk P w K mg base (L2.CX P w) 3 f fd ["many"] (spOne K C) := by
  refine F.okX scCkOne (fun vs H Q E h => ?_) (fun cdv A outer s H vs Q E hr h => ?_)
  · obtain ⟨v, k, rfl, _⟩ := h
    rfl
  · obtain ⟨v, k, rfl, av, hbad, q⟩ := h
    refine ⟨_, pss_one (ps_if (pt_not (pt_val (pe_call GN hr (by rfl) gN kN bN .nil pass0 (pa_cons (pv 0) pa_nil))))
        (pss_one (ps_raise rfl (takes_of rfl rfl rfl rfl) (pmk_err EA.T EA.B hr htop (by rfl) EA.g EA.k EA.ex EA.ty (by exact (pa_cons (pv 0) pa_nil)) rfl))) pss_nil), ?_⟩
    refine ⟨_, rfl, v, k, rfl, av, fun H1 e1 => ⟨_, rfl, ?_⟩⟩
    rw [oneV_eq]
    cases hn : oneV v with
    | false => exact iteT ⟨_, rfl, _, rfl, fun d nd => ((hbad hn).same e1).raise d nd⟩
    | true => exact iteF (q hn _ e1)
end
end OB
namespace OB
open PySem PySem.Spec PyProof.Rows L2 LamX
abbrev sBeg : Stmt := top 20
def Nb : List Str := ["stays", "many", "free_from", "last_there", "found", "index", "begin", "end", "life", "day", "number", "stay", "place", "free"]
def optN (o : Option Nat) : V := match o with
  | some j => .int ((j : Nat) : Int)
  | none => .non
/-- a list of pairs of a day and what was there ahead -/
def CRow (H : Hp) (a : Addr) (n : Nat) (ds : Nat → Int) (cs : Nat → Option Nat) : Prop := ∃ ts : Nat → Addr, H a = some (.lst ((OM.row n ts).map V.ref)) ∧ ∀ i, i < n → H (ts i) = some (.tup [.int (ds i), optN (cs i)])
theorem CRow.ext {H H' : Hp} {a : Addr} {n : Nat} {ds : Nat → Int} {cs : Nat → Option Nat} (h : CRow H a n ds cs) (e : ExtN H H') : CRow H' a n ds cs := by
  obtain ⟨ts, h1, h2⟩ := h
  exact ⟨ts, e _ _ h1 (by intro ps z; cases z), fun i hi => e _ _ (h2 i hi) (by intro ps z; cases z)⟩
theorem row_succ {α : Type} (n : Nat) (f : Nat → α) : OM.row (n + 1) f = OM.row n f ++ [f n] := by
  unfold OM.row
  rw [List.range_succ, List.map_append] <;> rfl
theorem row_congr {α : Type} {n : Nat} {f g : Nat → α} (h : ∀ i, i < n → f i = g i) : OM.row n f = OM.row n g := by
  unfold OM.row
  exact List.map_congr_left fun i hi => h i (List.mem_range.mp hi)
theorem up_map {α β : Type} (g : α → β) (f : Nat → α) (i : Nat) (v : α) : (fun j => g (OM.up f i v j)) = OM.up (fun j => g (f j)) i (g v) := by
  funext j
  unfold OM.up
  split <;> rfl
def But3 (A B C : Addr) (H H' : Hp) : Prop := ∀ b o, b ≠ A → b ≠ B → b ≠ C → H b = some o → H' b = some o
theorem But3.same {A B C : Addr} {H H1 H2 : Hp} (a : But3 A B C H H1) (e : Same H1 H2) : But3 A B C H H2 := fun b o n1 n2 n3 h => e _ _ (a b o n1 n2 n3 h)
theorem But3.tabs {T : List (Addr × Str)} {A B C : Addr} {H H' : Hp} {xs ys zs : List V} (t : Tabs T H) (hA : H A = some (.lst xs)) (hB : H B = some (.lst ys)) (hC : H C = some (.lst zs)) (b : But3 A B C H H') : Tabs T H' := fun y hy => by
  obtain ⟨ps, h1, h2, h3⟩ := t y hy
  refine ⟨ps, b _ _ (ne_of h1 hA (by intro z; cases z)) (ne_of h1 hB (by intro z; cases z)) (ne_of h1 hC (by intro z; cases z)) h1, h2, fun pos cv hc => ?_⟩
  obtain ⟨c, e1, e2⟩ := h3 pos cv hc
  exact ⟨c, e1, b _ _ (ne_of e2 hA (by intro z; unfold CodeO at z; cases z)) (ne_of e2 hB (by intro z; unfold CodeO at z; cases z)) (ne_of e2 hC (by intro z; unfold CodeO at z; cases z)) e2⟩
def spBeg (TT : List (Addr × Str)) : Sp := fun vs H Q _ => ∃ (a : Addr) (ss : List S3) (m : Nat), vs = [.ref a, .int (m : Nat)] ∧ Row H a ss ∧ Good ss ∧ ss.length ≤ 100 ∧ 0 < m ∧ Tabs TT H ∧
  ∀ H' F, ExtN H H' → Tabs TT H' → H F = none → CRow H' F ss.length (OM.refW ss m).ds (OM.refW ss m).cs → Q (.ref F) H'
/-- the places that are free by a day -/
def freeL (m : Nat) (fr : Nat → Int) (d : Int) : List Nat := (List.range m).filter fun k => decide (fr k ≤ d)
theorem freeL_head {m : Nat} {fr : Nat → Int} {d : Int} (h : ∃ k, k < m ∧ fr k ≤ d) : ∃ r, freeL m fr d = OM.plF d m fr :: r := by
  obtain ⟨k1, k2, k3⟩ := OM.pl_spec h
  cases e : freeL m fr d with
  | nil =>
    have := OM.nil_filter e _ k1
    rw [decide_eq_true k2] at this
    cases this
  | cons k r =>
    obtain ⟨a, b, c⟩ := OM.head_filter e
    have : OM.plF d m fr = k := OM.pl_eq a (of_decide_eq_true b) fun j hj => by
      have := of_decide_eq_false (c j hj)
      omega
    exact ⟨r, by rw [this]⟩
section
variable {P : Program} {w : World} {K : PySem.W.Frag} {mg : Str → Option Value} {base : Heap}
theorem scBeg : FnScope Nb ["stays", "many"] (defScope sBeg) := ⟨rfl, rfl, rfl, by decide +kernel, rfl, by decide +kernel, by decide +kernel⟩
theorem ok_beg {f fB : Addr} {fd fdB : FuncData} {TT : List (Addr × Str)} (F : Fun K "begins_and_causes" "begins_and_causes" sBeg f fd) (en : mg "enumerate" = none) (le : mg "len" = none) (mx : mg "max" = none) (mi : mg "min" = none) (rg : mg "range" = none)
    (GB : FnOk P w K mg base CX0 3 fB fdB ["stays"] (spBy TT)) (gB : mg "by_begins" = some (.ref fB)) (kB : PySem.W.keepIn K (.ref fB) = true) (bB : Binds K fdB ["stays"] []) : FnOk P w K mg base CX0 4 f fd ["stays", "many"] (spBeg TT) := by
  refine F.ok scBeg (fun vs H Q E h => ?_) (fun cdv A outer s H vs Q E hr h => ?_)
  · obtain ⟨a, ss, m, rfl, _⟩ := h
    rfl
  · obtain ⟨a, ss, m, rfl, row, g, hl, m0, tabs, q⟩ := h
    have nd := scBeg.nd
    refine ⟨_, pss_cons (ps_setLc (i := 2) (own := [("number", 10)]) (g := gName 10) (tt := tYes) rfl nd rfl rfl (sw_true rfl rfl rfl (by decide +kernel)) (pi_range1 (by rfl) rg (pa_cons (pe_callB (call_min2 rfl) (by rfl) mi (by decide +kernel) (pa_cons (pv 1) (pa_cons (pe_callB (call_max2 rfl) (by rfl) mx (by decide +kernel) (pa_cons pe_int (pa_cons (pe_callB call_len_seq (by rfl) le PySem.boot_len (pa_cons (pv 0) pa_nil)) pa_nil))) pa_nil))) pa_nil))
          (blkOk_by (N := Nb) (sc := defScope sBeg) (by decide +kernel)) (fun _ _ _ _ _ => pg_name (i := 10) nd rfl (Or.inl rfl)) (fun _ _ _ _ _ => pts_nil) (fun _ _ _ _ _ => pe_int))
      (pss_cons (ps_setLc (i := 3) (own := [("number", 10)]) (g := gName 10) (tt := tYes) rfl nd rfl rfl (sw_true rfl rfl rfl (by decide +kernel)) (pi_list (pv 2))
          (blkOk_by (N := Nb) (sc := defScope sBeg) (by decide +kernel)) (fun _ _ _ _ _ => pg_name (i := 10) nd rfl (Or.inl rfl)) (fun _ _ _ _ _ => pts_nil) (fun _ _ _ _ _ => pe_non))
      (pss_cons (ps_setLc (i := 4) (own := [("stay", 11)]) (g := gName 11) (tt := tYes) rfl nd rfl rfl (sw_true rfl rfl rfl (by decide +kernel)) (pi_list (pv 0))
          (blkOk_by (N := Nb) (sc := defScope sBeg) (by decide +kernel)) (fun _ _ _ _ _ => pg_name (i := 11) nd rfl (Or.inl rfl)) (fun _ _ _ _ _ => pts_nil) (fun _ _ _ _ _ => pe_tup (pa_cons pe_int (pa_cons pe_non pa_nil))))
      (pss_cons (ps_for PassesOwn.never rfl (pi_list (pe_call GB hr (by rfl) gB kB bB .nil pass0 (pa_cons (pv 0) pa_nil))) (pg_name (i := 5) nd rfl (Or.inl rfl))
        (pss_cons (ps_asg (pe_ix ix_list (pv 0) (pv 5) (fun _ _ => rfl)) (pg_tup (by rfl) (pgs_cons (pg_name (i := 6) nd rfl (Or.inl rfl)) (pgs_cons (pg_name (i := 7) nd rfl (Or.inl rfl)) (pgs_cons (pg_name (i := 8) nd rfl (Or.inl rfl)) pgs_nil)))))
        (pss_cons (ps_set (i := 9) nd rfl (Or.inr rfl) (pe_callB (call_max2 rfl) (by rfl) mx (by decide +kernel) (pa_cons (pv 6) (pa_cons (pe_callB (cr_min rfl) (by rfl) mi (by decide +kernel) (pa_cons (pv 2) pa_nil)) pa_nil))))
        (pss_cons (ps_set (i := 10) nd rfl (Or.inl rfl) (pe_ix ix_list (pe_lc (own := [("place", 12), ("free", 13)]) (g := gTup K 2 (gCons (gName 12) (gCons (gName 13) gNil))) (tt := fun σ H Q => tTest (tOp (rI0 fun i j => .bl (decide (i ≤ j))) (tVar 13) (tVar 9)) σ H Q) rfl nd (pi_enum (by rfl) en (pa_cons (pv 2) pa_nil))
            (blkOk_by (N := Nb) (sc := defScope sBeg) (by decide +kernel)) (fun _ _ _ _ _ => pg_tup rfl (pgs_cons (pg_name (i := 12) nd rfl (Or.inl rfl)) (pgs_cons (pg_name (i := 13) nd rfl (Or.inl rfl)) pgs_nil))) (fun _ _ _ _ _ => pts_one (pt_cmpR op_le (pv 13) (pv 9) (nomark _))) (fun _ _ _ _ _ => pv 12)) pe_int (fun _ _ => rfl)))
        (pss_cons (ps_asg (pe_tup (pa_cons (pv 9) (pa_cons (pe_ifExp (pt_cmpR op_gt (pv 9) (pv 6) (nomark _)) (pe_ix ix_list (pv 3) (pv 10) (fun _ _ => rfl)) pe_non) pa_nil))) (pg_sub (pv 4) (pv 5) set_list))
        (pss_cons (ps_asg (pe_op op_add (pe_op op_add (pe_op op_sub (pe_op op_add (pv 9) (pv 7)) (pv 6)) (pv 8)) pe_int) (pg_sub (pv 2) (pv 10) set_list))
        (pss_one (ps_asg (pv 5) (pg_sub (pv 3) (pv 10) set_list)))))))))
      (pss_one (ps_ret (pv 4)))))), ?_⟩
    obtain ⟨us, hu, pu⟩ := id row
    have lu := pu.length
    generalize hcc : OM.capW m ss.length = c
    have c0 : 0 < c := by rw [← hcc]; unfold OM.capW; omega
    have c1 : c ≤ 100 := by rw [← hcc]; unfold OM.capW; omega
    have hc : (if (if ((us.length : Nat) : Int) > 1 then ((us.length : Nat) : Int) else 1) < ((m : Nat) : Int) then (if ((us.length : Nat) : Int) > 1 then ((us.length : Nat) : Int) else 1) else ((m : Nat) : Int)) = ((c : Nat) : Int) := by
      rw [← hcc]
      unfold OM.capW
      rw [lu]
      by_cases z : ((ss.length : Nat) : Int) > 1
      · rw [if_pos z]
        split <;> omega
      · rw [if_neg z]
        split <;> omega
    refine ⟨_, rfl, _, rfl, a, us, rfl, .inl (SqL.of hu), 1, _, rfl, _, _, rfl, ((c : Nat) : Int), by rw [hc], by omega, by omega, fun A nA => ?_⟩
    have tn : (((c : Nat) : Int)).toNat = c := Int.toNat_natCast c
    refine lc_it walk_range (AccP A H (fun i => (OM.row i fun _ => (0 : Int)).map V.int)) (acc_start rfl) (fun _ _ _ _ => trivial) (fun i x J J' hi z y => ?_) (fun H1 z => ?_)
    · obtain ⟨rfl, rfl⟩ := y
      refine ⟨rfl, ?_⟩
      dsimp only [tYes]
      rw [if_pos rfl]
      exact acc_in z (Same.refl _) (by rw [List.length_map, OM.row_len, sizeLine_eq]; omega) (by rw [row_succ, List.map_append] <;> rfl)
    rw [tn] at z
    have gA : H1 A = some (.lst ((OM.row c OM.startW.fr).map V.int)) := z.2
    have e1 : Same H H1 := acc_same z (Same.refl H) nA
    clear z
    refine ⟨_, rfl, A, rfl, ⟨_, SqL.of gA⟩, fun B nB => ?_⟩
    have rl : ((OM.row c OM.startW.fr).map V.int).length = c := by rw [List.length_map, OM.row_len]
    refine lc_it (walk_list (xs := (OM.row c OM.startW.fr).map V.int)) (AccP B H1 (fun i => (OM.row i fun _ => (none : Option Nat)).map optN)) (acc_start rfl) (fun i J _ z => Same.seq (acc_same z (Same.refl H1) nB) (SqL.of gA)) (fun i x J J' hi z y => ?_) (fun H2 z => ?_)
    · obtain ⟨rfl, hx⟩ := y
      rw [rl] at hi
      refine ⟨rfl, ?_⟩
      dsimp only [tYes]
      rw [if_pos rfl]
      exact acc_in z (Same.refl _) (by rw [List.length_map, OM.row_len, sizeLine_eq]; omega) (by rw [row_succ, List.map_append] <;> rfl)
    rw [rl] at z
    have gB : H2 B = some (.lst ((OM.row c OM.startW.ls).map optN)) := z.2
    have e2 : Same H1 H2 := acc_same z (Same.refl H1) nB
    have AB : A ≠ B := ne_of_none gA nB
    have gA := e2 _ _ gA
    clear z
    have e12 := e1.trans e2
    have hu2 := e12 _ _ hu
    refine ⟨_, rfl, a, rfl, ⟨_, SqL.of hu2⟩, fun C nC => ?_⟩
    refine lc_it (walk_list (xs := us)) (fun i J => (∀ b o, b ≠ C → H2 b = some o → J b = some o) ∧ ∃ ts : Nat → Addr, J C = some (.lst ((OM.row i ts).map V.ref)) ∧ ∀ k, k < i → J (ts k) = some (.tup [.int 0, .non])) ⟨fun b o n h => (by rw [upd_ne n]; exact h), fun _ => C, upd_same, fun k hk => by omega⟩
      (fun i J _ z => SqL.of (z.1 _ _ (ne_of_none hu2 nC) hu2)) (fun i x J J' hi z y => ?_) (fun H3 z => ?_)
    · obtain ⟨rfl, hx⟩ := y
      obtain ⟨b3, ts, gC, ht⟩ := z
      refine ⟨rfl, ?_⟩
      dsimp only [tYes]
      rw [if_pos rfl]
      refine ⟨by show 2 ≤ sizeLine; decide, fun t nt => ⟨_, Same.new nt _ _ gC, by rw [List.length_map, OM.row_len, sizeLine_eq]; omega, fun b o n h => ?_, OM.up ts i t, ?_, fun k hk => ?_⟩⟩
      · rw [upd_ne n]
        exact Same.new nt _ _ (b3 _ _ n h)
      · rw [upd_same, row_succ, List.map_append]
        have : OM.row i (OM.up ts i t) = OM.row i ts := row_congr fun k hk => OM.up_ne (by omega)
        rw [this, OM.up_same] <;> rfl
      · by_cases z : k = i
        · subst z
          have tC : t ≠ C := (ne_of_none gC nt).symm
          rw [OM.up_same, upd_ne tC, upd_same]
        · have h := ht k (by omega)
          have tC : ts k ≠ C := ne_of h gC (by intro z; cases z)
          rw [OM.up_ne z, upd_ne tC]
          exact Same.new nt _ _ h
    obtain ⟨b3, ts0, gC, ht0⟩ := z
    rw [lu] at gC ht0
    have nCH : H C = none := e12.free nC
    have nAH : H A = none := nA
    have nBH : H B = none := e1.free nB
    have e3 : Same H H3 := fun b o h => b3 b o (ne_of_none h nCH) (e12 _ _ h)
    have AC : A ≠ C := ne_of_none gA nC
    have BC : B ≠ C := ne_of_none gB nC
    have gA := b3 _ _ AC gA
    have gB := b3 _ _ BC gB
    have row3 : Row H3 a ss := row.same e3
    refine ⟨_, rfl, a, ss, rfl, row3, by omega, Tabs.same tabs e3, fun H6 eN tN O os ord nO => ?_⟩
    refine ⟨O, rfl, ⟨_, SqL.of upd_same⟩, ?_⟩
    obtain rfl := OM.Order.one ord (OM.ordS_ok ss)
    have e6 : Same H6 (upd H6 O (.lst ((OM.ordS ss).map fun i => V.int (i : Nat)))) := Same.new nO
    have ext0 : ExtN H (upd H6 O (.lst ((OM.ordS ss).map fun i => V.int (i : Nat)))) := ExtN.same ((ExtN.of e3).trans eN) e6
    have tab0 : Tabs TT (upd H6 O (.lst ((OM.ordS ss).map fun i => V.int (i : Nat)))) := Tabs.same tN e6
    have gO : (upd H6 O (.lst ((OM.ordS ss).map fun i => V.int (i : Nat)))) O = some (.lst ((OM.ordS ss).map fun i => V.int (i : Nat))) := upd_same
    have gA0 := e6 _ _ (eN _ _ gA (by intro ps z; cases z))
    have gB0 := e6 _ _ (eN _ _ gB (by intro ps z; cases z))
    have gC0 := e6 _ _ (eN _ _ gC (by intro ps z; cases z))
    have gt0 : ∀ k, k < ss.length → (upd H6 O (.lst ((OM.ordS ss).map fun i => V.int (i : Nat)))) (ts0 k) = some (.tup [.int 0, .non]) := fun k hk => e6 _ _ (eN _ _ (ht0 k hk) (by intro ps z; cases z))
    have AO : O ≠ A := (ne_of_none (eN _ _ gA (by intro ps z; cases z)) nO).symm
    have BO : O ≠ B := (ne_of_none (eN _ _ gB (by intro ps z; cases z)) nO).symm
    have CO : O ≠ C := (ne_of_none (eN _ _ gC (by intro ps z; cases z)) nO).symm
    have row0 : Row (upd H6 O (.lst ((OM.ordS ss).map fun i => V.int (i : Nat)))) a ss := by
      obtain ⟨vs, hv, pv⟩ := row3
      exact ⟨vs, e6 _ _ (eN _ _ hv (by intro ps z; cases z)), Paired.imp (fun v s ⟨t, e, h⟩ => ⟨t, e, e6 _ _ (eN _ _ h (by intro ps z; cases z))⟩) pv⟩
    generalize upd H6 O (.lst ((OM.ordS ss).map fun i => V.int (i : Nat))) = G0 at ext0 tab0 gO gA0 gB0 gC0 gt0 row0
    obtain ⟨vs, hv, pv⟩ := id row0
    have lv := pv.length
    have aA : a ≠ A := fun z => by rw [z, nAH] at hu; cases hu
    have aB : a ≠ B := fun z => by rw [z, nBH] at hu; cases hu
    have aC : a ≠ C := fun z => by rw [z, nCH] at hu; cases hu
    have fin : ∀ {G : Hp}, But3 A B C G0 G → ExtN H G ∧ Tabs TT G := fun b => ⟨fun c o e no => b c o (ne_of_none e nAH) (ne_of_none e nBH) (ne_of_none e nCH) (ext0 c o e no), But3.tabs tab0 gA0 gB0 gC0 b⟩
    have olen := OM.ord_len ss
    refine for_it (walk_list (xs := (OM.ordS ss).map fun i => V.int (i : Nat))) (fun i σ G => (∃ o5 o6 o7 o8 o9 o10 : Option V, σ = [some (.ref a), some (.int (m : Nat)), some (.ref A), some (.ref B), some (.ref C), o5, o6, o7, o8, o9, o10, none, none, none]) ∧ But3 A B C G0 G ∧ ∃ x : OM.LSt, G A = some (.lst ((OM.row c x.fr).map V.int)) ∧ G B = some (.lst ((OM.row c x.ls).map optN)) ∧ CRow G C ss.length x.ds x.cs ∧
        OM.runW ss c (OM.ordS ss) OM.startW = OM.runW ss c ((OM.ordS ss).drop i) x)
      ⟨⟨_, _, _, _, _, _, rfl⟩, fun _ _ _ _ _ h => h, OM.startW, gA0, gB0, ⟨ts0, gC0, gt0⟩, by rw [List.drop_zero]⟩ (fun i σ G _ z => SqL.of (z.2.1 _ _ AO BO CO gO)) (fun i x σ G G' hi z y => ?_) (fun σ G z => ?_)
    · obtain ⟨rfl, hx⟩ := y
      obtain ⟨⟨o5, o6, o7, o8, o9, o10, rfl⟩, b3, x, gA, gB, crow, run⟩ := z
      rw [List.length_map] at hi
      rw [List.getElem?_map, List.getElem?_eq_getElem hi] at hx
      obtain rfl := (Option.some.inj hx)
      have dr : (OM.ordS ss).drop i = (OM.ordS ss)[i] :: (OM.ordS ss).drop (i + 1) := List.drop_eq_getElem_cons hi
      have mi : (OM.ordS ss)[i] < ss.length := (OM.ord_mem ss _).mp (List.getElem_mem hi)
      rw [dr] at run
      generalize (OM.ordS ss)[i] = idx at mi run
      have hvv : vs[idx]? = some vs[idx] := List.getElem?_eq_getElem (by omega)
      obtain ⟨s, hs, t, et, ht⟩ := Paired.at pv hvv
      have hvi : vs[idx]? = some (.ref t) := by rw [hvv, et]
      have es : OM.sOf ss idx = s := OM.sOf_at hs
      have run : OM.runW ss c (OM.ordS ss) OM.startW = OM.runW ss c ((OM.ordS ss).drop (i + 1)) (OM.stepW c s idx x) := by
        rw [run, ← es] <;> rfl
      have huG := b3 _ _ aA aB aC hv
      have htG := b3 _ _ (ne_of ht gA0 (by intro z; cases z)) (ne_of ht gB0 (by intro z; cases z)) (ne_of ht gC0 (by intro z; cases z)) ht
      refine ⟨_, rfl, _, rfl, a, vs, (idx : Nat), .ref t, rfl, rfl, SqL.of huG, atI_nat hvi, t, _, rfl, SqT.of htG, rfl, .int s.1, _, rfl, .int s.2.1, _, rfl, .int s.2.2, _, rfl, rfl, ?_⟩
      refine ⟨_, rfl, _, rfl, A, _, rfl, SqL.of gA, by rw [OM.row_len]; exact c0, fun mm hm hle => ?_⟩
      have em : OM.fminI (OM.row c x.fr) = mm := OM.fmin_eq hm hle
      refine ⟨s.1, mm, rfl, ?_⟩
      rw [show (if mm > s.1 then mm else s.1) = OM.dayF s.1 c x.fr from by unfold OM.dayF; rw [em]]
      obtain ⟨r, hr0⟩ := freeL_head (OM.day_some (b := s.1) (fr := x.fr) c0)
      obtain ⟨kc, _, _⟩ := OM.pl_spec (OM.day_some (b := s.1) (fr := x.fr) c0)
      unfold OM.stepW at run
      dsimp only at run
      generalize OM.dayF s.1 c x.fr = d at run hr0 kc ⊢
      generalize OM.plF d c x.fr = k at run hr0 kc
      refine ⟨_, rfl, A, _, rfl, SqL.of gA, fun F nF => ?_⟩
      have FA : F ≠ A := (ne_of_none gA nF).symm
      refine lc_it walk_enum (AccP F G' (fun j => (freeL j x.fr d).map fun k => V.int (k : Nat))) (acc_start rfl) (fun j J _ z => Same.seq (acc_same z (Same.refl G') nF) (SqL.of gA)) (fun j y J J' hj z y => ?_) (fun J z => ?_)
      · obtain ⟨T', x1, x2, rfl, hT, rfl, hx1, hx2⟩ := y
        obtain rfl : V.int (j : Nat) = x1 := Option.some.inj hx1
        rw [List.length_map, OM.row_len] at hj
        have hx2 : ((OM.row c x.fr).map V.int)[j]? = some x2 := hx2
        rw [List.getElem?_map, OM.row_at hj] at hx2
        obtain rfl := (Option.some.inj hx2)
        refine ⟨T', _, rfl, SqT.of upd_same, rfl, .int (j : Nat), _, rfl, .int (x.fr j), _, rfl, rfl, rfl, ?_⟩
        refine ⟨_, rfl, _, rfl, x.fr j, d, rfl, rfl, _, rfl, ?_⟩
        have st : freeL (j + 1) x.fr d = freeL j x.fr d ++ (if x.fr j ≤ d then [j] else []) := by
          unfold freeL
          rw [List.range_succ, List.filter_append]
          congr 1
          by_cases y : x.fr j ≤ d
          · rw [if_pos y]
            show (match decide (x.fr j ≤ d) with | true => j :: _ | false => _ : List Nat) = _
            rw [decide_eq_true y] <;> rfl
          · rw [if_neg y]
            show (match decide (x.fr j ≤ d) with | true => j :: _ | false => _ : List Nat) = _
            rw [decide_eq_false y] <;> rfl
        refine ite2 (fun h => ?_) (fun h => ?_)
        · rw [if_pos (of_decide_eq_true h)] at st
          refine ⟨_, rfl, acc_in z (Same.new hT) ?_ (by rw [st, List.map_append] <;> rfl)⟩
          have := List.length_filter_le (fun k => decide (x.fr k ≤ d)) (List.range j)
          rw [List.length_range] at this
          rw [List.length_map, sizeLine_eq]
          unfold freeL
          omega
        · rw [if_neg (fun y => h (decide_eq_true y)), List.append_nil] at st
          exact acc_out z (Same.new hT) (by rw [st])
      have gF : J F = some (.lst ((k :: r).map fun k => V.int (k : Nat))) := by
        have := z.2
        rw [List.length_map, OM.row_len] at this
        dsimp only at this
        rw [hr0] at this
        exact this
      have eJ : Same G' J := acc_same z (Same.refl G') nF
      have gA := eJ _ _ gA
      have gB := eJ _ _ gB
      have crow := crow.ext (ExtN.of eJ)
      have b3 := b3.same eJ
      clear z
      refine ⟨F, _, ((0 : Nat) : Int), .int (k : Nat), rfl, rfl, SqL.of gF, atI_nat rfl, ?_⟩
      have rls : ((OM.row c x.ls).map optN).length = c := by rw [List.length_map, OM.row_len]
      have rla : ((OM.row c x.fr).map V.int).length = c := by rw [List.length_map, OM.row_len]
      refine ⟨_, rfl, ?_⟩
      refine val_mid (t := tIf _ _ _) (fun v J' => v = optN (if d > s.1 then x.ls k else none) ∧ J' = J) (fun Kn hK => ?_) (fun v J' hc => ?_)
      · refine ⟨_, rfl, _, rfl, d, s.1, rfl, rfl, _, rfl, ite2 (fun h => ?_) (fun h => ?_)⟩
        · refine ⟨_, rfl, _, rfl, B, _, (k : Nat), optN (x.ls k), rfl, rfl, SqL.of gB, atI_nat (by rw [List.getElem?_map, OM.row_at kc] <;> rfl), hK _ _ ⟨?_, rfl⟩⟩
          rw [if_pos (of_decide_eq_true h)]
        · refine hK _ _ ⟨?_, rfl⟩
          have h2 : ¬ d > s.1 := fun y => h (decide_eq_true y)
          rw [if_neg h2] <;> rfl
      obtain ⟨rfl, rfl⟩ := hc
      obtain ⟨ts, gC, hts⟩ := crow
      have rlc : ((OM.row ss.length ts).map V.ref).length = ss.length := by rw [List.length_map, OM.row_len]
      refine ⟨by show 2 ≤ sizeLine; decide, fun t nt => ?_⟩
      have eT := Same.new (u := .tup [.int d, optN (if d > s.1 then x.ls k else none)]) nt
      have gT : (upd J' t (.tup [.int d, optN (if d > s.1 then x.ls k else none)])) t = some (.tup [.int d, optN (if d > s.1 then x.ls k else none)]) := upd_same
      have hts := fun j hj => eT _ _ (hts j hj)
      have gA := eT _ _ gA
      have gB := eT _ _ gB
      have gC := eT _ _ gC
      have b3 := b3.same eT
      generalize upd J' t (.tup [.int d, optN (if d > s.1 then x.ls k else none)]) = G1 at gT hts gA gB gC b3
      refine ⟨_, rfl, _, rfl, C, _, (idx : Nat), idx, rfl, rfl, gC, ixN_nat (by rw [rlc]; exact mi), ?_⟩
      have sC : ((OM.row ss.length ts).map V.ref).set idx (.ref t) = (OM.row ss.length (OM.up ts idx t)).map V.ref := by rw [← List.map_set, OM.row_set]
      rw [sC]
      have gC2 : (upd G1 C (.lst ((OM.row ss.length (OM.up ts idx t)).map V.ref))) C = some (.lst ((OM.row ss.length (OM.up ts idx t)).map V.ref)) := upd_same
      have ht2 : ∀ j, j < ss.length → (upd G1 C (.lst ((OM.row ss.length (OM.up ts idx t)).map V.ref))) (OM.up ts idx t j) = some (.tup [.int (OM.up x.ds idx d j), optN (OM.up x.cs idx (if d > s.1 then x.ls k else none) j)]) := fun j hj => by
        by_cases z : j = idx
        · subst z
          rw [OM.up_same, OM.up_same, OM.up_same, upd_ne (ne_of gT gC (by intro z; cases z))]
          exact gT
        · rw [OM.up_ne z, OM.up_ne z, OM.up_ne z, upd_ne (ne_of (hts j hj) gC (by intro z; cases z))]
          exact hts j hj
      have gA2 : (upd G1 C (.lst ((OM.row ss.length (OM.up ts idx t)).map V.ref))) A = some (.lst ((OM.row c x.fr).map V.int)) := by rw [upd_ne AC]; exact gA
      have gB2 : (upd G1 C (.lst ((OM.row ss.length (OM.up ts idx t)).map V.ref))) B = some (.lst ((OM.row c x.ls).map optN)) := by rw [upd_ne BC]; exact gB
      have b32 : But3 A B C G0 (upd G1 C (.lst ((OM.row ss.length (OM.up ts idx t)).map V.ref))) := fun b o n1 n2 n3 h => by rw [upd_ne n3]; exact b3 b o n1 n2 n3 h
      generalize upd G1 C (.lst ((OM.row ss.length (OM.up ts idx t)).map V.ref)) = G2 at gC2 ht2 gA2 gB2 b32
      refine ⟨_, rfl, _, rfl, _, _, rfl, rfl, _, rfl, _, _, rfl, rfl, _, rfl, _, _, rfl, rfl, _, _, rfl, rfl, _, rfl, _, rfl, A, _, (k : Nat), k, rfl, rfl, gA2, ixN_nat (by rw [rla]; exact kc), ?_⟩
      have sA : ((OM.row c x.fr).map V.int).set k (.int (d + s.2.1 - s.1 + s.2.2 + 1)) = (OM.row c (OM.up x.fr k (d + OM.lenS s + 1))).map V.int := by
        rw [← List.map_set, OM.row_set]
        unfold OM.lenS
        rw [show d + s.2.1 - s.1 + s.2.2 + 1 = d + (s.2.1 - s.1 + s.2.2) + 1 by omega]
      rw [sA]
      have gA3 : (upd G2 A (.lst ((OM.row c (OM.up x.fr k (d + OM.lenS s + 1))).map V.int))) A = some (.lst ((OM.row c (OM.up x.fr k (d + OM.lenS s + 1))).map V.int)) := upd_same
      have gB3 : (upd G2 A (.lst ((OM.row c (OM.up x.fr k (d + OM.lenS s + 1))).map V.int))) B = some (.lst ((OM.row c x.ls).map optN)) := by rw [upd_ne (Ne.symm AB)]; exact gB2
      have gC3 : (upd G2 A (.lst ((OM.row c (OM.up x.fr k (d + OM.lenS s + 1))).map V.int))) C = some (.lst ((OM.row ss.length (OM.up ts idx t)).map V.ref)) := by rw [upd_ne (Ne.symm AC)]; exact gC2
      have ht3 : ∀ j, j < ss.length → (upd G2 A (.lst ((OM.row c (OM.up x.fr k (d + OM.lenS s + 1))).map V.int))) (OM.up ts idx t j) = some (.tup [.int (OM.up x.ds idx d j), optN (OM.up x.cs idx (if d > s.1 then x.ls k else none) j)]) := fun j hj => by
        rw [upd_ne (ne_of (ht2 j hj) gA2 (by intro z; cases z))]
        exact ht2 j hj
      have b33 : But3 A B C G0 (upd G2 A (.lst ((OM.row c (OM.up x.fr k (d + OM.lenS s + 1))).map V.int))) := fun b o n1 n2 n3 h => by rw [upd_ne n1]; exact b32 b o n1 n2 n3 h
      generalize upd G2 A (.lst ((OM.row c (OM.up x.fr k (d + OM.lenS s + 1))).map V.int)) = G3 at gA3 gB3 gC3 ht3 b33
      refine ⟨_, rfl, _, rfl, _, rfl, B, _, (k : Nat), k, rfl, rfl, gB3, ixN_nat (by rw [rls]; exact kc), ?_⟩
      have sB : ((OM.row c x.ls).map optN).set k (.int (idx : Nat)) = (OM.row c (OM.up x.ls k (some idx))).map optN := by
        rw [← OM.row_set, List.map_set] <;> rfl
      rw [sB]
      refine ⟨⟨_, _, _, _, _, _, rfl⟩, fun b o n1 n2 n3 h => by rw [upd_ne n2]; exact b33 b o n1 n2 n3 h, _, ?_, ?_, ⟨OM.up ts idx t, ?_, fun j hj => ?_⟩, run⟩
      · rw [upd_ne AB]; exact gA3
      · exact upd_same
      · rw [upd_ne (Ne.symm BC)]; exact gC3
      · rw [upd_ne (ne_of (ht3 j hj) gB3 (by intro z; cases z))]
        exact ht3 j hj
    · obtain ⟨⟨o5, o6, o7, o8, o9, o10, rfl⟩, b3, x, gA, gB, crow, run⟩ := z
      rw [List.length_map, List.drop_length] at run
      obtain ⟨x1, x2⟩ := fin b3
      have run : OM.runW ss c (OM.ordS ss) OM.startW = x := run
      obtain ⟨c1, _, c3⟩ := OM.ref_cap g m0
      rw [hcc] at c1 c3
      refine ⟨_, rfl, q G C x1 x2 nCH ?_⟩
      have e : OM.refW ss c = x := run
      rw [c1, c3, e]
      exact crow
end
end OB
namespace OB
open PySem PySem.Spec PyProof.Rows L2 LamX
abbrev sLat : Stmt := top 21
abbrev sLateB : Stmt := top 22
abbrev sLatest : Stmt := top 23
def spLat (TT : List (Addr × Str)) : Sp := fun vs H Q _ => ∃ (a : Addr) (ss : List S3) (m : Nat), vs = [.ref a, .int (m : Nat)] ∧ Row H a ss ∧ Good ss ∧ ss.length ≤ 100 ∧ 0 < m ∧ Tabs TT H ∧
  ∀ H', ExtN H H' → Tabs TT H' → Q (.int (OM.worstW ss m)) H'
def spLateB (TT : List (Addr × Str)) (K : PySem.W.Frag) (CS CM : Addr) : Sp := fun vs H Q E => ∃ (v m : V) (k : Kd) (r : Nat ⊕ List S3), vs = [v, m] ∧ ArgS K H v r ∧ Any K H m k ∧ (∀ i, r = .inl i → Bad E H CS "index" (.int (i : Nat))) ∧ ∀ ss, r = .inr ss → ss.length ≤ 100 ∧ (oneV m = false → Bad E H CM "many" m) ∧
  (∀ n : Nat, m = .int (n : Nat) → 0 < n → Tabs TT H ∧ ∀ H' D, ExtN H H' → Tabs TT H' → (∀ o, (∀ ps, o ≠ .tbl ps) → H D ≠ some o) → H' D = some (.lst ((OM.row ss.length (OM.refW ss n).ds).map V.int)) → Q (.ref D) H')
def spLatest (TT : List (Addr × Str)) (K : PySem.W.Frag) (CS CM : Addr) : Sp := fun vs H Q E => ∃ (v m : V) (k : Kd) (r : Nat ⊕ List S3), vs = [v, m] ∧ ArgS K H v r ∧ Any K H m k ∧ (∀ i, r = .inl i → Bad E H CS "index" (.int (i : Nat))) ∧ ∀ ss, r = .inr ss → ss.length ≤ 100 ∧ (oneV m = false → Bad E H CM "many" m) ∧
  (∀ n : Nat, m = .int (n : Nat) → 0 < n → Tabs TT H ∧ ∀ H', ExtN H H' → Tabs TT H' → Q (.int (OM.worstW ss n)) H')
theorem mapTo_full {xs : List V} {n : Nat} (h : xs.length = n) : mapTo xs n = xs := by rw [← h, mapTo_all]
theorem one_nat {m : V} (h : oneV m = true) : ∃ n : Nat, m = .int (n : Nat) ∧ 0 < n := by
  cases m with
  | int i =>
    have z : decide (1 ≤ i) = true := h
    have z := of_decide_eq_true z
    exact ⟨i.toNat, by rw [Int.toNat_of_nonneg (by omega)], by omega⟩
  | _ => cases h
theorem row_in {H : Hp} {a : Addr} {ss : List S3} {us : List V} (hu : H a = some (.lst us)) (pu : Paired (St H) us ss) {i : Nat} (hi : i < ss.length) : ∃ t, us[i]? = some (.ref t) ∧ H t = some (.tup [.int (OM.sOf ss i).1, .int (OM.sOf ss i).2.1, .int (OM.sOf ss i).2.2]) := by
  have lu := pu.length
  have hv : us[i]? = some us[i] := List.getElem?_eq_getElem (by omega)
  obtain ⟨s, hs, t, et, ht⟩ := Paired.at pu hv
  rw [OM.sOf_at hs]
  exact ⟨t, by rw [hv, et], ht⟩
section
variable {P : Program} {w : World} {K : PySem.W.Frag} {mg : Str → Option Value} {base : Heap}
theorem scLat : FnScope ["stays", "many", "pairs", "day", "ahead", "begin", "end", "life"] ["stays", "many"] (defScope sLat) := ⟨rfl, rfl, rfl, by decide +kernel, rfl, by decide +kernel, by decide +kernel⟩
theorem ok_lat {f fB : Addr} {fd fdB : FuncData} {TT : List (Addr × Str)} (F : Fun K "latest_of" "latest_of" sLat f fd) (mx : mg "max" = none) (zi : mg "zip" = none)
    (GB : FnOk P w K mg base CX0 4 fB fdB ["stays", "many"] (spBeg TT)) (gB : mg "begins_and_causes" = some (.ref fB)) (kB : PySem.W.keepIn K (.ref fB) = true) (bB : Binds K fdB ["stays", "many"] []) : FnOk P w K mg base CX0 5 f fd ["stays", "many"] (spLat TT) := by
  refine F.ok scLat (fun vs H Q E h => ?_) (fun cdv A outer s H vs Q E hr h => ?_)
  · obtain ⟨a, ss, m, rfl, _⟩ := h
    rfl
  · obtain ⟨a, ss, m, rfl, row, g, hl, m0, tabs, q⟩ := h
    have nd := scLat.nd
    refine ⟨_, pss_cons (ps_set (i := 2) nd rfl (Or.inl rfl) (pe_call GB hr (by rfl) gB kB bB .nil pass0 (pa_cons (pv 0) (pa_cons (pv 1) pa_nil))))
      (pss_one (ps_ret (pe_callB (cr_max rfl) (by rfl) mx (by decide +kernel) (pa_cons (pe_lst (pa_cons pe_int (StX.pa_star (pe_lc (own := [("day", 3), ("ahead", 4), ("begin", 5), ("end", 6), ("life", 7)]) (g := gTup K 2 (gCons (gTup K 2 (gCons (gName 3) (gCons (gName 4) gNil))) (gCons (gTup K 3 (gCons (gName 5) (gCons (gName 6) (gCons (gName 7) gNil)))) gNil))) (tt := tYes) rfl nd (pi_zip (by rfl) zi (pa_cons (pv 2) (pa_cons (pv 0) pa_nil)))
          (blkOk_by (N := ["stays", "many", "pairs", "day", "ahead", "begin", "end", "life"]) (sc := defScope sLat) (by decide +kernel)) (fun _ _ _ _ _ => pg_tup rfl (pgs_cons (pg_tup rfl (pgs_cons (pg_name (i := 3) nd rfl (Or.inl rfl)) (pgs_cons (pg_name (i := 4) nd rfl (Or.inl rfl)) pgs_nil))) (pgs_cons (pg_tup rfl (pgs_cons (pg_name (i := 5) nd rfl (Or.inl rfl)) (pgs_cons (pg_name (i := 6) nd rfl (Or.inl rfl)) (pgs_cons (pg_name (i := 7) nd rfl (Or.inl rfl)) pgs_nil)))) pgs_nil))) (fun _ _ _ _ _ => pts_nil) (fun _ _ _ _ _ => pe_op op_sub (pv 3) (pv 5))) pa_nil))) pa_nil)))), ?_⟩
    refine ⟨_, rfl, _, rfl, a, ss, m, rfl, row, g, hl, m0, tabs, fun H1 C e1 t1 nC crow => ?_⟩
    obtain ⟨ts, gC, hts⟩ := crow
    have row1 : Row H1 a ss := by
      obtain ⟨us, hu, pu⟩ := row
      exact ⟨us, e1 _ _ hu (by intro ps z; cases z), Paired.imp (fun v s ⟨t, e, h⟩ => ⟨t, e, e1 _ _ h (by intro ps z; cases z)⟩) pu⟩
    obtain ⟨us, hu, pu⟩ := row1
    have lu := pu.length
    have lc : ((OM.row ss.length ts).map V.ref).length = ss.length := by rw [List.length_map, OM.row_len]
    refine ⟨_, rfl, _, rfl, C, a, _, _, rfl, SqL.of gC, SqL.of hu, fun D nD => ?_⟩
    have ml : ((OM.lateL ss m).map V.int).length = ss.length := by unfold OM.lateL; rw [List.length_map, OM.row_len]
    refine lc_it (walk_zip (xs := (OM.row ss.length ts).map V.ref) (ys := us) (n := ss.length) (by rw [lc]; omega)) (AccP D H1 (mapTo ((OM.lateL ss m).map V.int))) (acc_start rfl) (fun i G _ z => ⟨Same.seq (acc_same z (Same.refl H1) nD) (SqL.of gC), Same.seq (acc_same z (Same.refl H1) nD) (SqL.of hu)⟩) (fun i x G G' hi z y => ?_) (fun G z => ?_)
    · obtain ⟨T', x1, x2, rfl, hT, rfl, hx1, hx2⟩ := y
      have eG : Same H1 (upd G T' (.tup [x1, x2])) := (acc_same z (Same.refl H1) nD).trans (Same.new hT)
      have hx1 : ((OM.row ss.length ts).map V.ref)[i]? = some x1 := hx1
      rw [List.getElem?_map, OM.row_at hi] at hx1
      obtain rfl := Option.some.inj hx1
      obtain ⟨t, ht1, ht2⟩ := row_in hu pu hi
      have hx2 : us[i]? = some x2 := hx2
      rw [ht1] at hx2
      obtain rfl := Option.some.inj hx2
      have hc := eG _ _ (hts i hi)
      have hd := eG _ _ ht2
      have hl2 : ((OM.lateL ss m).map V.int)[i]? = some (.int ((OM.refW ss m).ds i - (OM.sOf ss i).1)) := by
        unfold OM.lateL
        rw [List.getElem?_map, OM.row_at hi] <;> rfl
      have fin := fun (v : V) (hv : v = .int ((OM.refW ss m).ds i - (OM.sOf ss i).1)) => acc_in (y := v) z (Same.new (u := .tup [V.ref (ts i), V.ref t]) hT) (mapTo_len (by rw [ml, sizeLine_eq]; omega)) (mapTo_succ (by rw [hl2, hv]))
      clear hl2
      generalize (OM.refW ss m).ds i = d1 at *
      generalize optN ((OM.refW ss m).cs i) = c1 at *
      generalize OM.sOf ss i = s1 at *
      refine ⟨T', _, rfl, SqT.of upd_same, rfl, .ref (ts i), _, rfl, ?_⟩
      refine ⟨ts i, _, rfl, SqT.of hc, rfl, .int d1, _, rfl, c1, _, rfl, rfl, ?_⟩
      refine ⟨.ref t, _, rfl, t, _, rfl, SqT.of hd, rfl, .int s1.1, _, rfl, .int s1.2.1, _, rfl, .int s1.2.2, _, rfl, rfl, ?_⟩
      refine ⟨rfl, ?_⟩
      refine ⟨by simp [wipe, L2.start], ?_⟩
      dsimp only [tYes]
      rw [if_pos rfl]
      exact ⟨_, rfl, _, rfl, d1, s1.1, rfl, rfl, fin _ rfl⟩
    rw [← ml] at z
    have gD : G D = some (.lst ((OM.lateL ss m).map V.int)) := by rw [z.2, mapTo_all]
    have e2 : Same H1 G := acc_same z (Same.refl H1) nD
    refine ⟨D, _, rfl, .inr (SqL.of gD), ?_, fun L nL => ⟨L, 0 :: OM.lateL ss m, rfl, SqL.of ?_, by simp, fun mm hm hle => ?_⟩⟩
    · rw [sizeLine_eq]
      simp only [List.length_cons, List.length_append, List.length_nil, ml]
      omega
    · rw [upd_same, List.append_nil] <;> rfl
    · have em := OM.worst_eq hm hle
      rw [← em]
      exact q _ (ExtN.same e1 (e2.trans (Same.new nL))) (Tabs.same t1 (e2.trans (Same.new nL)))
theorem scLateB : FnScope ["stays", "many", "told", "day", "ahead"] ["stays", "many"] (defScope sLateB) := ⟨rfl, rfl, rfl, by decide +kernel, rfl, by decide +kernel, by decide +kernel⟩
theorem ok_lateB {f fB fM fT CS CM : Addr} {fd fdB fdM fdT : FuncData} {TT : List (Addr × Str)} (F : Fun K "late_begins" "late_begins" sLateB f fd)
    (GB : FnOk P w K mg base CX0 4 fB fdB ["stays", "many"] (spBeg TT)) (gB : mg "begins_and_causes" = some (.ref fB)) (kB : PySem.W.keepIn K (.ref fB) = true) (bB : Binds K fdB ["stays", "many"] [])
    (GM : FnOk P w K mg base (L2.CX P w) 3 fM fdM ["many"] (spOne K CM)) (gM : mg "check_from_one" = some (.ref fM)) (kM : PySem.W.keepIn K (.ref fM) = true) (bM : Binds K fdM ["many"] [])
    (GT : FnOk P w K mg base (L2.CX P w) 5 fT fdT ["stays"] (spTold K CS)) (gT : mg "told_stays" = some (.ref fT)) (kT : PySem.W.keepIn K (.ref fT) = true) (bT : Binds K fdT ["stays"] []) : FnOk P w K mg base (L2.CX P w) 6 f fd ["stays", "many"] (spLateB TT K CS CM) := by
  refine F.okX scLateB (fun vs H Q E h => ?_) (fun cdv A outer s H vs Q E hr h => ?_)
  · obtain ⟨v, m, k, r, rfl, _⟩ := h
    rfl
  · obtain ⟨v, m, k, r, rfl, ha, hm, hb, q⟩ := h
    have nd := scLateB.nd
    have hr3 := hr.mono (show 3 ≤ 5 by decide)
    have hr4 := hr.mono (show 4 ≤ 5 by decide)
    refine ⟨_, pss_cons (ps_set (i := 2) nd rfl (Or.inl rfl) (pe_callS GT hr (by rfl) gT kT bT (fun σ => passAt (takes_of rfl rfl rfl rfl) σ) (pa_cons (pv 0) pa_nil)))
      (pss_cons (ps_expr (pe_callS GM hr3 (by rfl) gM kM bM (fun σ => passAt (takes_of rfl rfl rfl rfl) σ) (pa_cons (pv 1) pa_nil)))
      (pss_one (ps_ret (pe_lc (own := [("day", 3), ("ahead", 4)]) (g := gTup K 2 (gCons (gName 3) (gCons (gName 4) gNil))) (tt := tYes) rfl nd (pi_list (pe_call GB hr4 (by rfl) gB kB bB .nil pass0 (pa_cons (pv 2) (pa_cons (pv 1) pa_nil))))
          (blkOk_by (N := ["stays", "many", "told", "day", "ahead"]) (sc := defScope sLateB) (by decide +kernel)) (fun _ _ _ _ _ => pg_tup rfl (pgs_cons (pg_name (i := 3) nd rfl (Or.inl rfl)) (pgs_cons (pg_name (i := 4) nd rfl (Or.inl rfl)) pgs_nil))) (fun _ _ _ _ _ => pts_nil) (fun _ _ _ _ _ => pv 3))))), ?_⟩
    refine ⟨_, rfl, ?_⟩
    dsimp only [tNil]
    refine told_arg (E := E) ha hb fun ss er H1 D e1 nD row => ?_
    subst er
    obtain ⟨hl, q1, q2⟩ := q ss rfl
    obtain ⟨g, _⟩ := ha.good
    refine ⟨_, rfl, m, k, rfl, hm.same e1, fun z => (q1 z).same e1, fun z H2 e2 => ?_⟩
    obtain ⟨n, rfl, n0⟩ := one_nat z
    obtain ⟨tabs, q3⟩ := q2 n rfl n0
    have e12 := e1.trans e2
    refine ⟨_, rfl, _, rfl, D, ss, n, rfl, row.same e2, g, hl, n0, Tabs.same tabs e12, fun H3 C e3 t3 nC crow => ?_⟩
    obtain ⟨ts, gC, hts⟩ := crow
    have lc : ((OM.row ss.length ts).map V.ref).length = ss.length := by rw [List.length_map, OM.row_len]
    refine ⟨C, rfl, ⟨_, SqL.of gC⟩, fun R nR => ?_⟩
    have ml : ((OM.row ss.length (OM.refW ss n).ds).map V.int).length = ss.length := by rw [List.length_map, OM.row_len]
    refine lc_it (walk_list (xs := (OM.row ss.length ts).map V.ref)) (AccP R H3 (mapTo ((OM.row ss.length (OM.refW ss n).ds).map V.int))) (acc_start rfl) (fun i G _ z => Same.seq (acc_same z (Same.refl H3) nR) (SqL.of gC)) (fun i x G G' hi z y => ?_) (fun G z => ?_)
    · obtain ⟨rfl, hx⟩ := y
      rw [lc] at hi
      rw [List.getElem?_map, OM.row_at hi] at hx
      obtain rfl := Option.some.inj hx
      refine ⟨ts i, _, rfl, SqT.of (acc_same z (Same.refl H3) nR _ _ (hts i hi)), rfl, .int _, _, rfl, optN _, _, rfl, rfl, rfl, ?_⟩
      dsimp only [tYes]
      rw [if_pos rfl]
      refine ⟨_, rfl, acc_in z (Same.refl _) (mapTo_len (by rw [ml, sizeLine_eq]; omega)) (mapTo_succ ?_)⟩
      rw [List.getElem?_map, OM.row_at hi] <;> rfl
    have gR : G R = some (.lst ((OM.row ss.length (OM.refW ss n).ds).map V.int)) := by rw [z.2, lc, mapTo_full ml]
    have e4 : Same H3 G := acc_same z (Same.refl H3) nR
    have ext : ExtN H H3 := (ExtN.of e12).trans e3
    have nRH : ∀ o, (∀ ps, o ≠ .tbl ps) → H R ≠ some o := fun o no eo => by
      have := ext R o eo no
      rw [nR] at this
      cases this
    exact q3 G R (ExtN.same ext e4) (Tabs.same t3 e4) nRH gR
theorem scLatest : FnScope ["stays", "many", "told"] ["stays", "many"] (defScope sLatest) := ⟨rfl, rfl, rfl, by decide +kernel, rfl, by decide +kernel, by decide +kernel⟩
theorem ok_latest {f fB fM fT CS CM : Addr} {fd fdB fdM fdT : FuncData} {TT : List (Addr × Str)} (F : Fun K "latest" "latest" sLatest f fd)
    (GB : FnOk P w K mg base CX0 5 fB fdB ["stays", "many"] (spLat TT)) (gB : mg "latest_of" = some (.ref fB)) (kB : PySem.W.keepIn K (.ref fB) = true) (bB : Binds K fdB ["stays", "many"] [])
    (GM : FnOk P w K mg base (L2.CX P w) 3 fM fdM ["many"] (spOne K CM)) (gM : mg "check_from_one" = some (.ref fM)) (kM : PySem.W.keepIn K (.ref fM) = true) (bM : Binds K fdM ["many"] [])
    (GT : FnOk P w K mg base (L2.CX P w) 5 fT fdT ["stays"] (spTold K CS)) (gT : mg "told_stays" = some (.ref fT)) (kT : PySem.W.keepIn K (.ref fT) = true) (bT : Binds K fdT ["stays"] []) : FnOk P w K mg base (L2.CX P w) 6 f fd ["stays", "many"] (spLatest TT K CS CM) := by
  refine F.okX scLatest (fun vs H Q E h => ?_) (fun cdv A outer s H vs Q E hr h => ?_)
  · obtain ⟨v, m, k, r, rfl, _⟩ := h
    rfl
  · obtain ⟨v, m, k, r, rfl, ha, hm, hb, q⟩ := h
    have nd := scLatest.nd
    have hr3 := hr.mono (show 3 ≤ 5 by decide)
    refine ⟨_, pss_cons (ps_set (i := 2) nd rfl (Or.inl rfl) (pe_callS GT hr (by rfl) gT kT bT (fun σ => passAt (takes_of rfl rfl rfl rfl) σ) (pa_cons (pv 0) pa_nil)))
      (pss_cons (ps_expr (pe_callS GM hr3 (by rfl) gM kM bM (fun σ => passAt (takes_of rfl rfl rfl rfl) σ) (pa_cons (pv 1) pa_nil)))
      (pss_one (ps_ret (pe_call GB hr (by rfl) gB kB bB .nil pass0 (pa_cons (pv 2) (pa_cons (pv 1) pa_nil)))))), ?_⟩
    refine ⟨_, rfl, ?_⟩
    dsimp only [tNil]
    refine told_arg (E := E) ha hb fun ss er H1 D e1 nD row => ?_
    subst er
    obtain ⟨hl, q1, q2⟩ := q ss rfl
    obtain ⟨g, _⟩ := ha.good
    refine ⟨_, rfl, m, k, rfl, hm.same e1, fun z => (q1 z).same e1, fun z H2 e2 => ?_⟩
    obtain ⟨n, rfl, n0⟩ := one_nat z
    obtain ⟨tabs, q3⟩ := q2 n rfl n0
    have e12 := e1.trans e2
    exact ⟨_, rfl, _, rfl, D, ss, n, rfl, row.same e2, g, hl, n0, Tabs.same tabs e12, fun H3 e3 t3 => q3 H3 ((ExtN.of e12).trans e3) t3⟩
end
end OB
namespace OB
open PySem PySem.Spec PyProof.Rows L2 LamX
abbrev sWay : Stmt := top 24
abbrev sAddr : Stmt := top 25
def natV (j : Nat) : V := .int ((j : Nat) : Int)
theorem while_go {c : TT} {tb : TS} {D : Ends} {σ : L2.St} {H : Hp} (Pv : Nat → L2.St → Hp → Prop) (h0 : ∃ m, Pv m σ H)
    (hs : ∀ m σ H, Pv m σ H → c σ H fun b H1 => if b = true then tb { D with nx := fun σ' H' => ∃ m', m' < m ∧ Pv m' σ' H', ct := fun σ' H' => ∃ m', m' < m ∧ Pv m' σ' H', bk := D.nx } σ H1 else D.nx σ H1)
    (mono : ∀ σ H (Q Q' : Bool → Hp → Prop), (∀ b H1, Q b H1 → Q' b H1) → c σ H Q → c σ H Q') : tWhile c tb D σ H := by
  refine ⟨Pv, h0, fun m σ H w => mono σ H _ _ (fun b H1 q => ?_) (hs m σ H w)⟩
  cases b with
  | true => exact ⟨_, fun σ' H' z => z, q⟩
  | false => exact q
theorem cnt_le (n : Nat) (f : Nat → Int) (t : Int) : OM.cntW n f t ≤ n := by
  unfold OM.cntW
  exact Nat.le_trans List.countP_le_length (by rw [List.length_range]; exact Nat.le_refl _)
theorem cnt_mono {n : Nat} {f : Nat → Int} {s t : Int} (h : s ≤ t) : OM.cntW n f s ≤ OM.cntW n f t := by
  induction n with
  | zero => exact Nat.le_refl _
  | succ n ih =>
    rw [OM.cnt_succ, OM.cnt_succ]
    by_cases a : f n ≤ s
    · rw [if_pos a, if_pos (by omega)]; omega
    · rw [if_neg a]; split <;> omega
theorem cnt_less {n j : Nat} {f : Nat → Int} {s t : Int} (hj : j < n) (h1 : s < f j) (h2 : f j ≤ t) : OM.cntW n f s + 1 ≤ OM.cntW n f t := by
  induction n with
  | zero => omega
  | succ n ih =>
    rw [OM.cnt_succ, OM.cnt_succ]
    by_cases z : j = n
    · subst z
      have := cnt_mono (n := j) (f := f) (s := s) (t := t) (by omega)
      rw [if_neg (by omega), if_pos h2]
      omega
    · have := ih (by omega)
      by_cases a : f n ≤ s
      · rw [if_pos a, if_pos (by omega)]; omega
      · rw [if_neg a]; split <;> omega
theorem tabs_but {T : List (Addr × Str)} {D : Addr} {H H' : Hp} {xs : List V} (t : Tabs T H) (hD : H D = some (.lst xs)) (b : ButS D H H') : Tabs T H' := fun y hy => by
  obtain ⟨ps, h1, h2, h3⟩ := t y hy
  refine ⟨ps, b _ _ (ne_of h1 hD (by intro z; cases z)) h1, h2, fun pos cv hc => ?_⟩
  obtain ⟨c, e1, e2⟩ := h3 pos cv hc
  exact ⟨c, e1, b _ _ (ne_of e2 hD (by intro z; unfold CodeO at z; cases z)) e2⟩
/-- fresh but for tables -/
def Fresh (H : Hp) (D : Addr) : Prop := ∀ o, (∀ ps, o ≠ .tbl ps) → H D ≠ some o
theorem Fresh.of {H H' : Hp} {D : Addr} (e : ExtN H H') (n : H' D = none) : Fresh H D := fun o no eo => by
  have := e D o eo no
  rw [n] at this
  cases this
theorem Row.ext {H H' : Hp} {a : Addr} {ss : List S3} (h : Row H a ss) (e : ExtN H H') : Row H' a ss := by
  obtain ⟨us, hu, pu⟩ := h
  exact ⟨us, e _ _ hu (by intro ps z; cases z), Paired.imp (fun v s ⟨t, et, h⟩ => ⟨t, et, e _ _ h (by intro ps z; cases z)⟩) pu⟩
def spWay (TT : List (Addr × Str)) (K : PySem.W.Frag) (CS CM CI : Addr) : Sp := fun vs H Q E => ∃ (v m ix : V) (k ki : Kd) (r : Nat ⊕ List S3), vs = [v, m, ix] ∧ ArgS K H v r ∧ Any K H m k ∧ Any K H ix ki ∧ (∀ i, r = .inl i → Bad E H CS "index" (.int (i : Nat))) ∧ ∀ ss, r = .inr ss → ss.length ≤ 100 ∧ (oneV m = false → Bad E H CM "many" m) ∧
  (∀ n : Nat, m = .int (n : Nat) → 0 < n → (ixV ss.length ix = false → Bad E H CI "index" ix) ∧ ∀ i : Nat, ix = .int (i : Nat) → i < ss.length → Tabs TT H ∧ ∀ H' D xs, ExtN H H' → Tabs TT H' → Fresh H D → OM.Back (OM.refW ss n).cs i xs → H' D = some (.lst (xs.reverse.map natV)) → Q (.ref D) H')
def spAddr (TT : List (Addr × Str)) (K : PySem.W.Frag) (CS CD : Addr) : Sp := fun vs H Q E => ∃ (v l : V) (k : Kd) (r : Nat ⊕ List S3), vs = [v, l] ∧ ArgS K H v r ∧ Any K H l k ∧ (∀ i, r = .inl i → Bad E H CS "index" (.int (i : Nat))) ∧ ∀ ss, r = .inr ss → ss.length ≤ 100 ∧ (numV l = false → Bad E H CD "day" l) ∧
  (∀ n, l = .int n → 0 ≤ n → Tabs TT H ∧ ∀ H' (k : Nat), ExtN H H' → Tabs TT H' → OM.LeastM ss n k → Q (.int (k : Nat)) H')
section
variable {P : Program} {w : World} {K : PySem.W.Frag} {mg : Str → Option Value} {base : Heap}
theorem scWay : FnScope ["stays", "many", "index", "told", "pairs", "found"] ["stays", "many", "index"] (defScope sWay) := ⟨rfl, rfl, rfl, by decide +kernel, rfl, by decide +kernel, by decide +kernel⟩
theorem ok_way {f fB fM fT fI CS CM CI : Addr} {fd fdB fdM fdT fdI : FuncData} {TT : List (Addr × Str)} (F : Fun K "in_the_way" "in_the_way" sWay f fd)
    (GB : FnOk P w K mg base CX0 4 fB fdB ["stays", "many"] (spBeg TT)) (gB : mg "begins_and_causes" = some (.ref fB)) (kB : PySem.W.keepIn K (.ref fB) = true) (bB : Binds K fdB ["stays", "many"] [])
    (GM : FnOk P w K mg base (L2.CX P w) 3 fM fdM ["many"] (spOne K CM)) (gM : mg "check_from_one" = some (.ref fM)) (kM : PySem.W.keepIn K (.ref fM) = true) (bM : Binds K fdM ["many"] [])
    (GI : FnOk P w K mg base (L2.CX P w) 3 fI fdI ["stays", "index"] (spIdx K CI)) (gI : mg "check_index" = some (.ref fI)) (kI : PySem.W.keepIn K (.ref fI) = true) (bI : Binds K fdI ["stays", "index"] [])
    (GT : FnOk P w K mg base (L2.CX P w) 5 fT fdT ["stays"] (spTold K CS)) (gT : mg "told_stays" = some (.ref fT)) (kT : PySem.W.keepIn K (.ref fT) = true) (bT : Binds K fdT ["stays"] []) : FnOk P w K mg base (L2.CX P w) 6 f fd ["stays", "many", "index"] (spWay TT K CS CM CI) := by
  refine F.okX scWay (fun vs H Q E h => ?_) (fun cdv A outer s H vs Q E hr h => ?_)
  · obtain ⟨v, m, ix, k, ki, r, rfl, _⟩ := h
    rfl
  · obtain ⟨v, m, ix, k, ki, r, rfl, ha, hm, hi, hb, q⟩ := h
    have nd := scWay.nd
    have hr3 := hr.mono (show 3 ≤ 5 by decide)
    have hr4 := hr.mono (show 4 ≤ 5 by decide)
    refine ⟨_, pss_cons (ps_set (i := 3) nd rfl (Or.inl rfl) (pe_callS GT hr (by rfl) gT kT bT (fun σ => passAt (takes_of rfl rfl rfl rfl) σ) (pa_cons (pv 0) pa_nil)))
      (pss_cons (ps_expr (pe_callS GM hr3 (by rfl) gM kM bM (fun σ => passAt (takes_of rfl rfl rfl rfl) σ) (pa_cons (pv 1) pa_nil)))
      (pss_cons (ps_expr (pe_callS GI hr3 (by rfl) gI kI bI (fun σ => passAt (takes_of rfl rfl rfl rfl) σ) (pa_cons (pv 3) (pa_cons (pv 2) pa_nil))))
      (pss_cons (ps_set (i := 4) nd rfl (Or.inl rfl) (pe_call GB hr4 (by rfl) gB kB bB .nil pass0 (pa_cons (pv 3) (pa_cons (pv 1) pa_nil))))
      (pss_cons (ps_set (i := 5) nd rfl (Or.inl rfl) (pe_lst (pa_cons (pv 2) pa_nil)))
      (pss_cons (ps_while (passes_of rfl) (pt_cmpR op_notN (pe_ix ix_tup (pe_ix ix_list (pv 4) (pe_ix ix_list (pv 5) (pe_un un_neg pe_int) (fun _ _ => rfl)) (fun _ _ => rfl)) pe_int (fun _ _ => rfl)) pe_non (nomark _))
        (pss_one (ps_expr (pe_bm PySem.F.plainAttrs_list PySem.F.slot_list_append PySem.F.type_list_append mt_append (pv 5) (pa_cons (pe_ix ix_tup (pe_ix ix_list (pv 4) (pe_ix ix_list (pv 5) (pe_un un_neg pe_int) (fun _ _ => rfl)) (fun _ _ => rfl)) pe_int (fun _ _ => rfl)) pa_nil)))))
      (pss_one (ps_ret (pe_revL (pv 5))))))))), ?_⟩
    refine ⟨_, rfl, ?_⟩
    dsimp only [tNil]
    refine told_arg (E := E) ha hb fun ss er H1 D e1 nD row => ?_
    subst er
    obtain ⟨hl, q1, q2⟩ := q ss rfl
    obtain ⟨g, _⟩ := ha.good
    refine ⟨_, rfl, m, k, rfl, hm.same e1, fun z => (q1 z).same e1, fun z H2 e2 => ?_⟩
    obtain ⟨n, rfl, n0⟩ := one_nat z
    obtain ⟨q3, q4⟩ := q2 n rfl n0
    have e12 := e1.trans e2
    obtain ⟨us, hu, pu⟩ := row.same e2
    have lu := pu.length
    refine ⟨_, rfl, _, rfl, D, us, ix, ki, rfl, SqL.of hu, hi.same e12, fun z => ?_, fun z H3 e3 => ?_⟩
    · rw [lu] at z
      exact (q3 z).same e12
    obtain ⟨i, rfl, hi2⟩ : ∃ i : Nat, ix = .int (i : Nat) ∧ i < us.length := by
      cases ix with
      | int n =>
        have z1 : (decide (0 ≤ n) && decide (n < (us.length : Int))) = true := z
        simp only [Bool.and_eq_true, decide_eq_true_eq] at z1
        exact ⟨n.toNat, by rw [Int.toNat_of_nonneg z1.1], by omega⟩
      | _ => cases z
    rw [lu] at hi2
    obtain ⟨tabs, q5⟩ := q4 i rfl hi2
    have e13 := e12.trans e3
    refine ⟨_, rfl, _, rfl, D, ss, n, rfl, row.same (e2.trans e3), g, hl, n0, Tabs.same tabs e13, fun H4 C e4 t4 nC crow => ?_⟩
    obtain ⟨ts, gC, hts⟩ := crow
    have ext4 : ExtN H H4 := (ExtN.of e13).trans e4
    refine ⟨_, rfl, by show 1 ≤ sizeLine; decide, fun R nR => ?_⟩
    have eR : Same H4 (upd H4 R (.lst [V.int ((i : Nat) : Int)])) := Same.new nR
    have gR : (upd H4 R (.lst [V.int ((i : Nat) : Int)])) R = some (.lst (([] ++ [i]).map natV)) := upd_same
    have CR : C ≠ R := ne_of_none gC nR
    have gC := eR _ _ gC
    have hts := fun j hj => eR _ _ (hts j hj)
    have frR : Fresh H R := Fresh.of ext4 nR
    have ext5 := ExtN.same ext4 eR
    have t5 := Tabs.same t4 eR
    generalize upd H4 R (.lst [V.int ((i : Nat) : Int)]) = H5 at gR gC hts ext5 t5
    have I := OM.ref_inv g n0
    have down : ∀ {l j : Nat}, l < ss.length → (OM.refW ss n).cs l = some j → j < ss.length ∧ (OM.refW ss n).ds j < (OM.refW ss n).ds l := fun {l j} hl2 e => by
      have lt : (OM.sOf ss l).1 < (OM.refW ss n).ds l := by
        refine Classical.byContradiction fun z => ?_
        rw [(OM.no_cause g n0 hl2).mpr z] at e
        cases e
      obtain ⟨j2, e2, a1, a2, _⟩ := OM.ahead_one g n0 hl2 lt
      rw [e] at e2
      obtain rfl := Option.some.inj e2
      exact ⟨a1, a2⟩
    clear I
    generalize (OM.refW ss n).ds = ds at *
    generalize (OM.refW ss n).cs = cs at *
    have c0 : OM.cntW ss.length ds (ds i - 1) + 1 ≤ ss.length := Nat.le_trans (cnt_less (t := ds i) hi2 (by omega) (Int.le_refl _)) (cnt_le _ _ _)
    refine while_go (fun mm σ G => σ = [some v, some (.int ((n : Nat) : Int)), some (.int ((i : Nat) : Int)), some (.ref D), some (.ref C), some (.ref R)] ∧ ButS R H5 G ∧ ∃ (ys : List Nat) (l : Nat), G R = some (.lst ((ys ++ [l]).map natV)) ∧ l < ss.length ∧ (∀ zs, OM.Back cs l zs → OM.Back cs i (ys ++ zs)) ∧ ys.length + 1 + OM.cntW ss.length ds (ds l - 1) ≤ ss.length ∧ mm = OM.cntW ss.length ds (ds l - 1))
      ⟨_, rfl, ButS.refl, [], i, gR, hi2, fun zs h => h, by simp; omega, rfl⟩ (fun mm σ G z => ?_) (fun σ G Q Q' hq h => ?_)
    · obtain ⟨rfl, B, ys, l, gRG, ll, bk, len, rfl⟩ := z
      have gCG := B _ _ CR gC
      have htl := hts l ll
      have htG := B _ _ (ne_of htl gR (by intro z; cases z)) htl
      have at1 : atI ((ys ++ [l]).map natV) (-1) = some (natV l) := by rw [List.map_append]; exact atI_last _ _
      have at2 : atI ((OM.row ss.length ts).map V.ref) ((l : Nat) : Int) = some (.ref (ts l)) := atI_nat (by rw [List.getElem?_map, OM.row_at ll] <;> rfl)
      refine ⟨_, rfl, _, rfl, 1, rfl, R, _, -1, natV l, rfl, rfl, SqL.of gRG, at1, C, _, (l : Nat), .ref (ts l), rfl, rfl, SqL.of gCG, at2, ts l, _, ((1 : Nat) : Int), optN (cs l), rfl, rfl, SqT.of htG, atI_nat rfl, rfl, _, rfl, ?_⟩
      cases hc : cs l with
      | none =>
        refine iteF ⟨_, rfl, R, _, rfl, SqL.of gRG, fun p np => ?_⟩
        refine q5 _ p (ys ++ [l]) ?_ ?_ ?_ (bk [l] (.one hc)) ?_
        · exact fun b o eb no => Same.new np _ _ (B b o (fun z => frR o no (by rw [← z]; exact eb)) (ext5 b o eb no))
        · exact Tabs.same (tabs_but t5 gR B) (Same.new np)
        · exact Fresh.of (fun b o eb no => B b o (fun z => frR o no (by rw [← z]; exact eb)) (ext5 b o eb no)) np
        · rw [upd_same, List.map_reverse]
      | some j =>
        obtain ⟨d1, d2⟩ := down ll hc
        rw [hc] at htG
        refine iteT ⟨_, rfl, .inl ⟨rfl, _, SqL.of gRG⟩, _, rfl, _, rfl, 1, rfl, R, _, -1, natV l, rfl, rfl, SqL.of gRG, at1, C, _, (l : Nat), .ref (ts l), rfl, rfl, SqL.of gCG, at2, ts l, _, ((1 : Nat) : Int), natV j, rfl, rfl, SqT.of htG, atI_nat rfl, R, _, _, rfl, rfl, gRG, by rw [List.length_map, List.length_append, sizeLine_eq]; simp; omega, ?_⟩
        have less := cnt_less (n := ss.length) (f := ds) (s := ds j - 1) (t := ds l - 1) d1 (by omega) (by omega)
        refine ⟨_, ?_, rfl, B.trans ButS.put, ys ++ [l], j, ?_, d1, fun zs h => ?_, ?_, rfl⟩
        · omega
        · rw [upd_same, List.map_append, List.map_append, List.map_append] <;> rfl
        · rw [List.append_assoc]
          exact bk _ (.more hc h)
        · rw [List.length_append]
          simp
          omega
    · obtain ⟨a1, b1, a2, b2, a3, b3, p1, x1, i1, v1, c1, c2, c3, c4, p2, x2, i2, v2, d1, d2, d3, d4, p3, x3, i3, v3, f1, f2, f3, f4, g1, kk, g2, q⟩ := h
      exact ⟨a1, b1, a2, b2, a3, b3, p1, x1, i1, v1, c1, c2, c3, c4, p2, x2, i2, v2, d1, d2, d3, d4, p3, x3, i3, v3, f1, f2, f3, f4, g1, kk, g2, hq _ _ q⟩
theorem scAddr : FnScope ["stays", "late", "told", "many"] ["stays", "late"] (defScope sAddr) := ⟨rfl, rfl, rfl, by decide +kernel, rfl, by decide +kernel, by decide +kernel⟩
theorem ok_addr {f fB fM fT CS CD fDi : Addr} {fd fdB fdM fdT : FuncData} {TT : List (Addr × Str)} (F : Fun K "addresses_for" "addresses_for" sAddr f fd)
    (GB : FnOk P w K mg base CX0 5 fB fdB ["stays", "many"] (spLat TT)) (gB : mg "latest_of" = some (.ref fB)) (kB : PySem.W.keepIn K (.ref fB) = true) (bB : Binds K fdB ["stays", "many"] [])
    (GN : FnOk P w K mg base CX0 2 fM fdM ["thing"] (spAsk K (numFrom 0))) (gN : mg "is_number" = some (.ref fM)) (kN : PySem.W.keepIn K (.ref fM) = true) (bN : Binds K fdM ["thing"] [])
    (ED : ErrK P K mg "BadDay" CD fDi "day") (htop : (P.main.scope.names.lookup ("super" : Str)).isSome = false)
    (GT : FnOk P w K mg base (L2.CX P w) 5 fT fdT ["stays"] (spTold K CS)) (gT : mg "told_stays" = some (.ref fT)) (kT : PySem.W.keepIn K (.ref fT) = true) (bT : Binds K fdT ["stays"] []) : FnOk P w K mg base (L2.CX P w) 6 f fd ["stays", "late"] (spAddr TT K CS CD) := by
  refine F.okX scAddr (fun vs H Q E h => ?_) (fun cdv A outer s H vs Q E hr h => ?_)
  · obtain ⟨v, l, k, r, rfl, _⟩ := h
    rfl
  · obtain ⟨v, l, k, r, rfl, ha, hm, hb, q⟩ := h
    have nd := scAddr.nd
    have hr2 := hr.mono (show 2 ≤ 5 by decide)
    refine ⟨_, pss_cons (ps_set (i := 2) nd rfl (Or.inl rfl) (pe_callS GT hr (by rfl) gT kT bT (fun σ => passAt (takes_of rfl rfl rfl rfl) σ) (pa_cons (pv 0) pa_nil)))
      (pss_cons (ps_if (pt_not (pt_val (pe_call GN hr2 (by rfl) gN kN bN .nil pass0 (pa_cons (pv 1) pa_nil))))
        (pss_one (ps_raise rfl (takes_of rfl rfl rfl rfl) (pmk_err ED.T ED.B hr2 htop (by rfl) ED.g ED.k ED.ex ED.ty (by exact (pa_cons (pv 1) pa_nil)) rfl))) pss_nil)
      (pss_cons (ps_set (i := 3) nd rfl (Or.inl rfl) pe_int)
      (pss_cons (ps_while (passes_of rfl) (pt_cmpR op_gt (pe_call GB hr (by rfl) gB kB bB .nil pass0 (pa_cons (pv 2) (pa_cons (pv 3) pa_nil))) (pv 1) (nomark _))
        (pss_one (ps_aug (i := 3) nd rfl (Or.inl rfl) pe_int ip_add)))
      (pss_one (ps_ret (pv 3)))))), ?_⟩
    refine ⟨_, rfl, ?_⟩
    dsimp only [tNil]
    refine told_arg (E := E) ha hb fun ss er H1 D e1 nD row => ?_
    subst er
    obtain ⟨hl, q1, q2⟩ := q ss rfl
    obtain ⟨g, _⟩ := ha.good
    refine ⟨_, rfl, l, k, rfl, hm.same e1, fun H2 e2 => ⟨_, rfl, ?_⟩⟩
    have e12 := e1.trans e2
    rw [numV_eq]
    cases hn : numV l with
    | false => exact iteT ⟨_, rfl, _, rfl, fun d nd => ((q1 hn).same e12).raise d nd⟩
    | true =>
      obtain ⟨n, rfl, n0⟩ : ∃ n : Int, l = .int n ∧ 0 ≤ n := by
        cases l with
        | int n => exact ⟨n, rfl, of_decide_eq_true hn⟩
        | _ => cases hn
      obtain ⟨tabs, q3⟩ := q2 n rfl n0
      refine iteF ?_
      have row2 := row.same e2
      have tab2 := Tabs.same tabs e12
      refine while_go (fun mm σ G => ExtN H2 G ∧ Tabs TT G ∧ ∃ k : Nat, σ = [some v, some (.int n), some (.ref D), some (.int ((k : Nat) : Int))] ∧ 1 ≤ k ∧ k ≤ max 1 ss.length ∧ (∀ j, 1 ≤ j → j < k → n < OM.worstW ss j) ∧ mm = 200 - k)
        ⟨_, fun b o e no => e, tab2, 1, rfl, Nat.le_refl _, by omega, fun j h1 h2 => by omega, rfl⟩ (fun mm σ G z => ?_) (fun σ G Q Q' hq h => ?_)
      · obtain ⟨eG, tG, k, rfl, k1, k2, all, rfl⟩ := z
        refine ⟨_, rfl, _, rfl, D, ss, k, rfl, Row.ext row2 eG, g, hl, k1, tG, fun H3 e3 t3 => ⟨_, rfl, _, n, rfl, rfl, _, rfl, ?_⟩⟩
        refine ite2 (fun h => ?_) (fun h => ?_)
        · have lt := of_decide_eq_true h
          have kn : k < ss.length := by
            refine Classical.byContradiction fun z => ?_
            rw [OM.worst_time g (by omega)] at lt
            omega
          refine ⟨_, rfl, _, 1, rfl, rfl, 200 - (k + 1), by omega, eG.trans e3, t3, k + 1, ?_, by omega, by omega, fun j h1 h2 => ?_, rfl⟩
          · rfl
          · by_cases z : j = k
            · rw [z]; exact lt
            · exact all j h1 (by omega)
        · have le : ¬ n < OM.worstW ss k := fun y => h (decide_eq_true y)
          exact ⟨_, rfl, q3 _ k ((ExtN.of e12).trans (eG.trans e3)) t3 ⟨k1, by omega, all⟩⟩
      · obtain ⟨x2, h2, x3, h3, a, ss, m, e, row, g, l, m0, tabs, qq⟩ := h
        refine ⟨x2, h2, x3, h3, a, ss, m, e, row, g, l, m0, tabs, fun H' e' t' => ?_⟩
        obtain ⟨y, hy, i, j, a1, a2, kk, a3, q⟩ := qq H' e' t'
        exact ⟨y, hy, i, j, a1, a2, kk, a3, hq _ _ q⟩
end
end OB
namespace OB
open PySem PySem.Spec PyProof.Rows L2 LamX
abbrev sLLate : Stmt := top 35
def Nt2 : List Str := ["stays", "many", "found", "bound", "at", "begin", "end", "life", "days", "address", "last"]
theorem ix_listK {X : Cx} {K : PySem.W.Frag} (h : X.K = K) : IxR X (rIxL K) := by
  subst h
  exact ix_list
theorem rep_flat (x : V) : ∀ n : Nat, (List.replicate n [x]).flatten = List.replicate n x
  | 0 => rfl
  | n + 1 => by rw [List.replicate_succ, List.flatten_cons, rep_flat x n] <;> rfl
theorem rep_go {H H1 : Hp} {Z : Addr} {x : V} {n : Nat} {Q : VK} (e : Same H H1) (gZ : H1 Z = some (.lst [x])) (l : n ≤ 1000) (q : ∀ H' D, Same H H' → H D = none → H' D = some (.lst (List.replicate n x)) → Q (.ref D) H') : rRep (.ref Z) (.int ((n : Nat) : Int)) H1 Q := by
  refine ⟨Z, ((n : Nat) : Int), [x], rfl, rfl, gZ, by omega, by omega, by rw [sizeLine_eq]; simp; omega, fun D nD => ?_⟩
  refine q _ D (e.trans (Same.new nD)) (e.free nD) ?_
  rw [upd_same, Int.toNat_natCast, rep_flat]
theorem rep_row {α : Type} {n : Nat} (f : α → V) (a : α) : List.replicate n (f a) = (OM.row n fun _ => a).map f := by
  unfold OM.row
  rw [List.map_map]
  refine (List.eq_replicate_iff.mpr ⟨by rw [List.length_map, List.length_range], fun x mx => ?_⟩).symm
  obtain ⟨k, _, rfl⟩ := List.mem_map.mp mx
  rfl
def refV (o : Option Addr) : V := match o with
  | some t => .ref t
  | none => .non
def optI (o : Option Int) : V := match o with
  | some i => .int i
  | none => .non
/-- a list of pairs of a day and an address -/
def ARow (H : Hp) (a : Addr) (n : Nat) (ds : Nat → Int) (as : Nat → Nat) : Prop := ∃ ts : Nat → Addr, H a = some (.lst ((OM.row n ts).map V.ref)) ∧ ∀ i, i < n → H (ts i) = some (.tup [.int (ds i), .int ((as i : Nat) : Int)])
theorem ARow.ext {H H' : Hp} {a : Addr} {n : Nat} {ds : Nat → Int} {as : Nat → Nat} (h : ARow H a n ds as) (e : ExtN H H') : ARow H' a n ds as := by
  obtain ⟨ts, h1, h2⟩ := h
  exact ⟨ts, e _ _ h1 (by intro ps z; cases z), fun i hi => e _ _ (h2 i hi) (by intro ps z; cases z)⟩
def spLLate (TT : List (Addr × Str)) : Sp := fun vs H Q _ => ∃ (a : Addr) (ss : List S3) (m : Nat), vs = [.ref a, .int (m : Nat)] ∧ Row H a ss ∧ Good ss ∧ ss.length ≤ 100 ∧ 0 < m ∧ m ≤ 1000 ∧ Tabs TT H ∧
  ∀ H' F, ExtN H H' → Tabs TT H' → H F = none → ARow H' F ss.length (OM.refW ss m).ds (OM.refW ss m).as → Q (.ref F) H'
def But2L (A B : Addr) (H H' : Hp) : Prop := ∀ b o, b ≠ A → b ≠ B → H b = some o → H' b = some o
theorem But2L.same {A B : Addr} {H H1 H2 : Hp} (a : But2L A B H H1) (e : Same H1 H2) : But2L A B H H2 := fun b o n1 n2 h => e _ _ (a b o n1 n2 h)
theorem But2L.tabs {T : List (Addr × Str)} {A B : Addr} {H H' : Hp} {xs ys : List V} (t : Tabs T H) (hA : H A = some (.lst xs)) (hB : H B = some (.lst ys)) (b : But2L A B H H') : Tabs T H' := fun y hy => by
  obtain ⟨ps, h1, h2, h3⟩ := t y hy
  refine ⟨ps, b _ _ (ne_of h1 hA (by intro z; cases z)) (ne_of h1 hB (by intro z; cases z)) h1, h2, fun pos cv hc => ?_⟩
  obtain ⟨c, e1, e2⟩ := h3 pos cv hc
  exact ⟨c, e1, b _ _ (ne_of e2 hA (by intro z; unfold CodeO at z; cases z)) (ne_of e2 hB (by intro z; unfold CodeO at z; cases z)) e2⟩
section
variable {P : Program} {w : World} {K : PySem.W.Frag} {mg : Str → Option Value} {base : Heap}
theorem scLLate : FnScope Nt2 ["stays", "many"] (defScope sLLate) := ⟨rfl, rfl, rfl, by decide +kernel, rfl, by decide +kernel, by decide +kernel⟩
theorem ok_llate {f fB : Addr} {fd fdB : FuncData} {TT : List (Addr × Str)} (F : Fun K "_law_late" "_law_late" sLLate f fd) (le : mg "len" = none) (mx : mg "max" = none) (mi : mg "min" = none)
    (GB : FnOk P w K mg base CX0 3 fB fdB ["stays"] (spBy TT)) (gB : mg "_law_order" = some (.ref fB)) (kB : PySem.W.keepIn K (.ref fB) = true) (bB : Binds K fdB ["stays"] []) : FnOk P w K mg base CX0 4 f fd ["stays", "many"] (spLLate TT) := by
  refine F.ok scLLate (fun vs H Q E h => ?_) (fun cdv A outer s H vs Q E hr h => ?_)
  · obtain ⟨a, ss, m, rfl, _⟩ := h
    rfl
  · obtain ⟨a, ss, m, rfl, row, g, hl, m0, m1, tabs, q⟩ := h
    have nd := scLLate.nd
    refine ⟨_, pss_cons (ps_par (i := 2) (j := 3) (by rfl) nd rfl rfl (by decide) rfl rfl (pa_cons (pe_op op_rep (pe_lst (pa_cons pe_non pa_nil)) (pe_callB call_len_seq (by rfl) le PySem.boot_len (pa_cons (pv 0) pa_nil))) (pa_cons (pe_op op_rep (pe_lst (pa_cons pe_non pa_nil)) (pv 1)) pa_nil)) (by rfl))
      (pss_cons (ps_for PassesOwn.never rfl (pi_list (pe_call GB hr (by rfl) gB kB bB .nil pass0 (pa_cons (pv 0) pa_nil))) (pg_name (i := 4) nd rfl (Or.inl rfl))
        (pss_cons (ps_asg (pe_ix ix_list (pv 0) (pv 4) (fun _ _ => rfl)) (pg_tup (by rfl) (pgs_cons (pg_name (i := 5) nd rfl (Or.inr rfl)) (pgs_cons (pg_name (i := 6) nd rfl (Or.inl rfl)) (pgs_cons (pg_name (i := 7) nd rfl (Or.inl rfl)) pgs_nil)))))
        (pss_cons (ps_setLc (i := 8) (own := [("last", 10)]) (g := gName 10) (tt := tYes) rfl nd rfl rfl (sw_true rfl rfl rfl (by decide +kernel)) (pi_list (pv 3))
            (blkOk_by (N := Nt2) (sc := defScope sLLate) (by decide +kernel)) (fun _ _ _ _ _ => pg_name (i := 10) nd rfl (Or.inl rfl)) (fun _ _ _ _ _ => pts_nil)
            (fun _ _ _ _ _ => pe_ifExp (pt_cmpR op_isN (pv 10) pe_non (nomark _)) (pv 5) (pe_callB (call_max2 rfl) (by rfl) mx (by decide +kernel) (pa_cons (pv 5) (pa_cons (pe_op op_add (pv 10) pe_int) pa_nil)))))
        (pss_cons (ps_set (i := 9) nd rfl (Or.inl rfl) (pe_bm PySem.F.plainAttrs_list PySem.F.slot_list_index PySem.F.type_list_index mt_index (pv 8) (pa_cons (pe_callB (cr_min rfl) (by rfl) mi (by decide +kernel) (pa_cons (pv 8) pa_nil)) pa_nil)))
        (pss_cons (ps_asg (pe_tup (pa_cons (pe_ix ix_list (pv 8) (pv 9) (fun _ _ => rfl)) (pa_cons (pv 9) pa_nil))) (pg_sub (pv 2) (pv 4) set_list))
        (pss_one (ps_asg (pe_op op_add (pe_op op_sub (pe_op op_add (pe_ix ix_list (pv 8) (pv 9) (fun _ _ => rfl)) (pv 6)) (pv 5)) (pv 7)) (pg_sub (pv 3) (pv 9) set_list))))))))
      (pss_one (ps_ret (pv 2)))), ?_⟩
    obtain ⟨us, hu, pu⟩ := id row
    have lu := pu.length
    refine ⟨by show 1 ≤ sizeLine; decide, fun Z nZ => ?_⟩
    have e1 : Same H (upd H Z (.lst [.non])) := Same.new nZ
    have gZ : (upd H Z (.lst [.non])) Z = some (.lst [.non]) := upd_same
    generalize upd H Z (.lst [.non]) = H1 at e1 gZ
    refine ⟨_, rfl, a, us, rfl, .inl (SqL.of (e1 _ _ hu)), rep_go (Same.refl H1) gZ (by omega) fun H2 A e2 nA gA => ?_⟩
    refine ⟨by show 1 ≤ sizeLine; decide, fun Z2 nZ2 => ?_⟩
    have e3 : Same H2 (upd H2 Z2 (.lst [.non])) := Same.new nZ2
    have gZ2 : (upd H2 Z2 (.lst [.non])) Z2 = some (.lst [.non]) := upd_same
    have gA := e3 _ _ gA
    have e03 := (e1.trans e2).trans e3
    have nAH : H A = none := e1.free nA
    generalize upd H2 Z2 (.lst [.non]) = H3 at e3 gZ2 gA e03
    refine ⟨_, rfl, rep_go (Same.refl H3) gZ2 (by omega) fun H4 B e4 nB gB => ?_⟩
    have AB : A ≠ B := ne_of_none gA nB
    have gA := e4 _ _ gA
    have nBH : H B = none := e03.free nB
    have e04 := e03.trans e4
    rw [lu] at gA
    rw [show List.replicate ss.length V.non = (OM.row ss.length fun _ => (none : Option Addr)).map refV from rep_row refV none] at gA
    rw [show List.replicate m V.non = (OM.row m fun _ => (none : Option Int)).map optI from rep_row optI none] at gB
    refine ⟨_, _, rfl, ?_⟩
    dsimp only
    have row4 := row.same e04
    refine ⟨_, rfl, a, ss, rfl, row4, by omega, Tabs.same tabs e04, fun H6 eN tN O os ord nO => ?_⟩
    refine ⟨O, rfl, ⟨_, SqL.of upd_same⟩, ?_⟩
    obtain rfl := OM.Order.one ord (OM.ordS_ok ss)
    have e6 : Same H6 (upd H6 O (.lst ((OM.ordS ss).map fun i => V.int (i : Nat)))) := Same.new nO
    have ext0 : ExtN H (upd H6 O (.lst ((OM.ordS ss).map fun i => V.int (i : Nat)))) := ExtN.same ((ExtN.of e04).trans eN) e6
    have tab0 : Tabs TT (upd H6 O (.lst ((OM.ordS ss).map fun i => V.int (i : Nat)))) := Tabs.same tN e6
    have gO : (upd H6 O (.lst ((OM.ordS ss).map fun i => V.int (i : Nat)))) O = some (.lst ((OM.ordS ss).map fun i => V.int (i : Nat))) := upd_same
    have AO : O ≠ A := (ne_of_none (eN _ _ gA (by intro ps z; cases z)) nO).symm
    have BO : O ≠ B := (ne_of_none (eN _ _ gB (by intro ps z; cases z)) nO).symm
    have gA0 := e6 _ _ (eN _ _ gA (by intro ps z; cases z))
    have gB0 := e6 _ _ (eN _ _ gB (by intro ps z; cases z))
    have row0 := Row.ext (row4) (ExtN.same eN e6)
    generalize upd H6 O (.lst ((OM.ordS ss).map fun i => V.int (i : Nat))) = G0 at ext0 tab0 gO gA0 gB0 row0
    obtain ⟨vs, hv, pv⟩ := id row0
    have lv := pv.length
    have aA : a ≠ A := fun z => by rw [z, nAH] at hu; cases hu
    have aB : a ≠ B := fun z => by rw [z, nBH] at hu; cases hu
    have fin : ∀ {G : Hp}, But2L A B G0 G → ExtN H G ∧ Tabs TT G := fun b => ⟨fun c o e no => b c o (ne_of_none e nAH) (ne_of_none e nBH) (ext0 c o e no), But2L.tabs tab0 gA0 gB0 b⟩
    have olen := OM.ord_len ss
    refine for_it (walk_list (xs := (OM.ordS ss).map fun i => V.int (i : Nat))) (fun i σ G => (∃ o4 o5 o6 o7 o8 o9 : Option V, σ = [some (.ref a), some (.int (m : Nat)), some (.ref A), some (.ref B), o4, o5, o6, o7, o8, o9, none]) ∧ But2L A B G0 G ∧ ∃ (x : OM.LSt) (tf : Nat → Option Addr) (bd : Nat → Option Int), G A = some (.lst ((OM.row ss.length tf).map refV)) ∧ G B = some (.lst ((OM.row m bd).map optI)) ∧
        (∀ j t, j < ss.length → tf j = some t → G t = some (.tup [.int (x.ds j), .int ((x.as j : Nat) : Int)])) ∧ (∀ j, j < ss.length → tf j = none → j ∈ (OM.ordS ss).drop i) ∧ (∀ k, k < m → x.fr k = OM.fo (bd k)) ∧
        OM.runW ss m (OM.ordS ss) OM.startW = OM.runW ss m ((OM.ordS ss).drop i) x)
      ⟨⟨_, _, _, _, _, _, rfl⟩, fun _ _ _ _ h => h, OM.startW, fun _ => none, fun _ => none, gA0, gB0, (fun j t _ z => by cases z), (fun j hj _ => by rw [List.drop_zero]; exact (OM.ord_mem ss j).mpr hj), (fun k _ => rfl), by rw [List.drop_zero]⟩ (fun i σ G _ z => SqL.of (z.2.1 _ _ AO BO gO)) (fun i x σ G G' hi z y => ?_) (fun σ G z => ?_)
    · obtain ⟨rfl, hx⟩ := y
      obtain ⟨⟨o4, o5, o6, o7, o8, o9, rfl⟩, b2, x, tf, bd, gA, gB, htf, hn, rel, run⟩ := z
      rw [List.length_map] at hi
      rw [List.getElem?_map, List.getElem?_eq_getElem hi] at hx
      obtain rfl := (Option.some.inj hx)
      have dr : (OM.ordS ss).drop i = (OM.ordS ss)[i] :: (OM.ordS ss).drop (i + 1) := List.drop_eq_getElem_cons hi
      have mi2 : (OM.ordS ss)[i] < ss.length := (OM.ord_mem ss _).mp (List.getElem_mem hi)
      rw [dr] at run hn
      generalize (OM.ordS ss)[i] = idx at mi2 run hn
      obtain ⟨t, hvi, ht⟩ := row_in hv pv mi2
      have gs := g _ (OM.sOf_mem mi2)
      have run : OM.runW ss m (OM.ordS ss) OM.startW = OM.runW ss m ((OM.ordS ss).drop (i + 1)) (OM.stepW m (OM.sOf ss idx) idx x) := run
      generalize OM.sOf ss idx = s at run ht gs
      have huG := b2 _ _ aA aB hv
      have htG := b2 _ _ (ne_of ht gA0 (by intro z; cases z)) (ne_of ht gB0 (by intro z; cases z)) ht
      dsimp only [gName]
      refine ⟨_, rfl, _, rfl, a, vs, (idx : Nat), .ref t, rfl, rfl, SqL.of huG, atI_nat hvi, t, _, rfl, SqT.of htG, rfl, .int s.1, _, rfl, .int s.2.1, _, rfl, .int s.2.2, _, rfl, rfl, ?_⟩
      refine ⟨_, rfl, B, rfl, ⟨_, SqL.of gB⟩, fun Dd nD => ?_⟩
      have rlB : ((OM.row m bd).map optI).length = m := by rw [List.length_map, OM.row_len]
      have DA : Dd ≠ A := (ne_of_none gA nD).symm
      have DB : Dd ≠ B := (ne_of_none gB nD).symm
      refine lc_it (walk_list (xs := (OM.row m bd).map optI)) (AccP Dd G' (fun j => (OM.row j fun k => OM.daysL s.1 (bd k)).map V.int)) (acc_start rfl) (fun j J _ z => Same.seq (acc_same z (Same.refl G') nD) (SqL.of gB)) (fun j y J J' hj z yy => ?_) (fun J z => ?_)
      · obtain ⟨rfl, hy⟩ := yy
        rw [rlB] at hj
        rw [List.getElem?_map, OM.row_at hj] at hy
        obtain rfl := Option.some.inj hy
        refine ⟨rfl, ?_⟩
        dsimp only [tYes]
        rw [if_pos rfl]
        have fin2 := fun (v : V) (hv : v = .int (OM.daysL s.1 (bd j))) => acc_in (y := v) z (Same.refl _) (by rw [List.length_map, OM.row_len, sizeLine_eq]; omega) (by rw [row_succ, List.map_append, hv] <;> rfl)
        refine ⟨_, rfl, rfl, _, rfl, ?_⟩
        cases hb : bd j with
        | none => exact iteT ⟨_, rfl, fin2 _ (by rw [hb] <;> rfl)⟩
        | some l => exact iteF ⟨_, rfl, _, rfl, _, _, rfl, rfl, _, _, rfl, fin2 _ (by rw [hb] <;> rfl)⟩
      have gD : J Dd = some (.lst ((OM.row m fun k => OM.daysL s.1 (bd k)).map V.int)) := by
        have := z.2
        rw [rlB] at this
        exact this
      have eJ : Same G' J := acc_same z (Same.refl G') nD
      have gA := eJ _ _ gA
      have gB := eJ _ _ gB
      have htf := fun j t h1 h2 => eJ _ _ (htf j t h1 h2)
      have b2 := b2.same eJ
      clear z
      have em := OM.law_min m0 gs.1 rel
      obtain ⟨w1, kc, w3, w4⟩ := OM.law_day m0 gs.1 rel
      unfold OM.stepW at run
      dsimp only at run
      have dge := OM.day_ge (b := s.1) (m := m) (fr := x.fr)
      generalize OM.dayF s.1 m x.fr = d at run em w1 kc w3 w4 dge
      generalize OM.plF d m x.fr = k at run kc w3 w4
      have rlD : ((OM.row m fun k => OM.daysL s.1 (bd k)).map V.int).length = m := by rw [List.length_map, OM.row_len]
      have atD : ∀ {j}, j < m → ((OM.row m fun k => OM.daysL s.1 (bd k)).map V.int)[j]? = some (.int (OM.daysL s.1 (bd j))) := fun {j} hj => by rw [List.getElem?_map, OM.row_at hj] <;> rfl
      refine ⟨_, rfl, .inl ⟨rfl, _, SqL.of gD⟩, _, rfl, Dd, _, rfl, SqL.of gD, by rw [OM.row_len]; exact m0, fun mm hm hle => ?_⟩
      have ed : mm = d := by rw [← em]; exact (OM.fmin_eq hm hle).symm
      subst ed
      refine ⟨Dd, _, .int mm, k, .int (OM.daysL s.1 (bd k)), rfl, rfl, SqL.of gD, rfl, ?_, atD kc, by rw [w3]; simp [eqV], fun q z' hq hz => ?_, ?_⟩
      · exact List.all_eq_true.mpr fun y my => by
          obtain ⟨i, _, rfl⟩ := List.mem_map.mp my
          rfl
      · rw [atD (by omega)] at hz
        obtain rfl := Option.some.inj hz
        have := w4 q hq
        simp [eqV, this]
      refine ⟨_, rfl, _, rfl, Dd, _, (k : Nat), .int mm, rfl, rfl, SqL.of gD, atI_nat (by rw [atD kc, w3]), _, rfl, by show 2 ≤ sizeLine; decide, fun t2 nt => ?_⟩
      have eT := Same.new (u := .tup [.int mm, .int ((k : Nat) : Int)]) nt
      have gT : (upd J t2 (.tup [.int mm, .int ((k : Nat) : Int)])) t2 = some (.tup [.int mm, .int ((k : Nat) : Int)]) := upd_same
      have htf := fun j t h1 h2 => eT _ _ (htf j t h1 h2)
      have gA := eT _ _ gA
      have gB := eT _ _ gB
      have gD := eT _ _ gD
      have b2 := b2.same eT
      generalize upd J t2 (.tup [.int mm, .int ((k : Nat) : Int)]) = J1 at gT htf gA gB gD b2
      have rlA : ((OM.row ss.length tf).map refV).length = ss.length := by rw [List.length_map, OM.row_len]
      refine ⟨_, rfl, _, rfl, A, _, (idx : Nat), idx, rfl, rfl, gA, ixN_nat (by rw [rlA]; exact mi2), ?_⟩
      have sA : ((OM.row ss.length tf).map refV).set idx (.ref t2) = (OM.row ss.length (OM.up tf idx (some t2))).map refV := by
        rw [← OM.row_set, List.map_set] <;> rfl
      rw [sA]
      have gA2 : (upd J1 A (.lst ((OM.row ss.length (OM.up tf idx (some t2))).map refV))) A = some (.lst ((OM.row ss.length (OM.up tf idx (some t2))).map refV)) := upd_same
      have gB2 : (upd J1 A (.lst ((OM.row ss.length (OM.up tf idx (some t2))).map refV))) B = some (.lst ((OM.row m bd).map optI)) := by rw [upd_ne (Ne.symm AB)]; exact gB
      have gD2 : (upd J1 A (.lst ((OM.row ss.length (OM.up tf idx (some t2))).map refV))) Dd = some (.lst ((OM.row m fun k => OM.daysL s.1 (bd k)).map V.int)) := by rw [upd_ne DA]; exact gD
      have ht2 : ∀ j t, j < ss.length → OM.up tf idx (some t2) j = some t → (upd J1 A (.lst ((OM.row ss.length (OM.up tf idx (some t2))).map refV))) t = some (.tup [.int (OM.up x.ds idx mm j), .int ((OM.up x.as idx k j : Nat) : Int)]) := fun j t hj e => by
        by_cases z : j = idx
        · subst z
          rw [OM.up_same] at e
          obtain rfl := Option.some.inj e
          rw [OM.up_same, OM.up_same, upd_ne (ne_of gT gA (by intro z; cases z))]
          exact gT
        · rw [OM.up_ne z] at e
          have h := htf j t hj e
          rw [OM.up_ne z, OM.up_ne z, upd_ne (ne_of h gA (by intro z; cases z))]
          exact h
      have b22 : But2L A B G0 (upd J1 A (.lst ((OM.row ss.length (OM.up tf idx (some t2))).map refV))) := fun b o n1 n2 h => by rw [upd_ne n1]; exact b2 b o n1 n2 h
      generalize upd J1 A (.lst ((OM.row ss.length (OM.up tf idx (some t2))).map refV)) = J2 at gA2 gB2 gD2 ht2 b22
      refine ⟨_, rfl, _, rfl, Dd, _, (k : Nat), .int mm, rfl, rfl, SqL.of gD2, atI_nat (by rw [atD kc, w3]), _, rfl, _, _, rfl, rfl, _, rfl, _, _, rfl, rfl, _, rfl, _, _, rfl, rfl, _, rfl, _, rfl, B, _, (k : Nat), k, rfl, rfl, gB2, ixN_nat (by rw [rlB]; exact kc), ?_⟩
      have sB : ((OM.row m bd).map optI).set k (.int (mm + s.2.1 - s.1 + s.2.2)) = (OM.row m (OM.up bd k (some (mm + OM.lenS s)))).map optI := by
        rw [show mm + s.2.1 - s.1 + s.2.2 = mm + OM.lenS s by unfold OM.lenS; omega, ← OM.row_set, List.map_set] <;> rfl
      rw [sB]
      refine ⟨⟨_, _, _, _, _, _, rfl⟩, fun b o n1 n2 h => (by rw [upd_ne n2]; exact b22 b o n1 n2 h), _, OM.up tf idx (some t2), OM.up bd k (some (mm + OM.lenS s)), ?_, upd_same, fun j t hj e => ?_, fun j hj e => ?_, fun j hj => ?_, run⟩
      · rw [upd_ne AB]; exact gA2
      · rw [upd_ne (ne_of (ht2 j t hj e) gB2 (by intro z; cases z))]
        exact ht2 j t hj e
      · by_cases z : j = idx
        · subst z; rw [OM.up_same] at e; cases e
        · rw [OM.up_ne z] at e
          exact (List.mem_cons.mp (hn j hj e)).resolve_left z
      · unfold OM.up
        dsimp only
        by_cases z : j = k
        · rw [if_pos z, if_pos z] <;> rfl
        · rw [if_neg z, if_neg z]; exact rel j hj
    · obtain ⟨⟨o4, o5, o6, o7, o8, o9, rfl⟩, b2, x, tf, bd, gA, gB, ht, hn, rel, run⟩ := z
      rw [List.length_map, List.drop_length] at run hn
      obtain ⟨x1, x2⟩ := fin b2
      have run : OM.refW ss m = x := run
      refine ⟨_, rfl, q G A x1 x2 nAH ⟨fun j => (tf j).getD 0, ?_, fun j hj => ?_⟩⟩
      · rw [gA]
        congr 2
        unfold OM.row
        rw [List.map_map, List.map_map]
        refine List.map_congr_left fun j hj => ?_
        have hj := List.mem_range.mp hj
        cases e : tf j with
        | none => exact absurd (hn j hj e) (by simp)
        | some t => simp [e, refV]
      · rw [run]
        cases e : tf j with
        | none => exact absurd (hn j hj e) (by simp)
        | some t =>
          have := ht j t hj e
          show G ((tf j).getD 0) = _
          rw [e]
          exact this
end
end OB
namespace OB
open PySem PySem.Spec PyProof.Rows L2 LamX
abbrev sLChain : Stmt := top 36
abbrev sLWorst : Stmt := top 37
def Nc2 : List Str := ["stays", "late", "index", "found", "day", "address", "ahead", "at"]
def spLWorst : Sp := fun vs H Q _ => ∃ (a b : Addr) (ss : List S3) (m : Nat), vs = [.ref a, .ref b] ∧ Row H a ss ∧ ARow H b ss.length (OM.refW ss m).ds (OM.refW ss m).as ∧ ss.length ≤ 100 ∧ ∀ H', Same H H' → Q (.int (OM.worstW ss m)) H'
def spLChain : Sp := fun vs H Q _ => ∃ (a b : Addr) (ss : List S3) (m i : Nat), vs = [.ref a, .ref b, .int (i : Nat)] ∧ Row H a ss ∧ Good ss ∧ ARow H b ss.length (OM.refW ss m).ds (OM.refW ss m).as ∧ ss.length ≤ 100 ∧ 0 < m ∧ i < ss.length ∧
  ∀ H' D xs, Same H H' → H D = none → OM.Back (OM.refW ss m).cs i xs → H' D = some (.lst (xs.reverse.map natV)) → Q (.ref D) H'
section
variable {P : Program} {w : World} {K : PySem.W.Frag} {mg : Str → Option Value} {base : Heap}
theorem scLWorst : FnScope ["stays", "late", "pair", "stay"] ["stays", "late"] (defScope sLWorst) := ⟨rfl, rfl, rfl, by decide +kernel, rfl, by decide +kernel, by decide +kernel⟩
theorem ok_lworst {f : Addr} {fd : FuncData} (F : Fun K "_law_worst" "_law_worst" sLWorst f fd) (mx : mg "max" = none) (zi : mg "zip" = none) : FnOk P w K mg base CX0 1 f fd ["stays", "late"] spLWorst := by
  refine F.ok scLWorst (fun vs H Q E h => ?_) (fun cdv A outer s H vs Q E hr h => ?_)
  · obtain ⟨a, b, ss, m, rfl, _⟩ := h
    rfl
  · obtain ⟨a, b, ss, m, rfl, row, arow, hl, q⟩ := h
    have nd := scLWorst.nd
    refine ⟨_, pss_one (ps_ret (pe_callB (cr_max rfl) (by rfl) mx (by decide +kernel) (pa_cons (pe_op op_cat (pe_lst (pa_cons pe_int pa_nil)) (pe_lc (own := [("pair", 2), ("stay", 3)]) (g := gTup K 2 (gCons (gName 2) (gCons (gName 3) gNil))) (tt := tYes) rfl nd (pi_zip (by rfl) zi (pa_cons (pv 1) (pa_cons (pv 0) pa_nil)))
          (blkOk_by (N := ["stays", "late", "pair", "stay"]) (sc := defScope sLWorst) (by decide +kernel)) (fun _ _ _ _ _ => pg_tup rfl (pgs_cons (pg_name (i := 2) nd rfl (Or.inl rfl)) (pgs_cons (pg_name (i := 3) nd rfl (Or.inl rfl)) pgs_nil))) (fun _ _ _ _ _ => pts_nil) (fun _ _ _ _ _ => pe_op op_sub (pe_ix (ix_tupK (K := K) rfl) (pv 2) pe_int (fun _ _ => rfl)) (pe_ix (ix_tupK (K := K) rfl) (pv 3) pe_int (fun _ _ => rfl))))) pa_nil))), ?_⟩
    obtain ⟨ts, gC0, hts0⟩ := arow
    obtain ⟨us, hu0, pu0⟩ := row
    refine ⟨by show 1 ≤ sizeLine; decide, fun Z nZ => ?_⟩
    have eZ : Same H (upd H Z (.lst [.int 0])) := Same.new nZ
    have gZ : (upd H Z (.lst [.int 0])) Z = some (.lst [.int 0]) := upd_same
    generalize upd H Z (.lst [.int 0]) = H1 at eZ gZ
    have gC := eZ _ _ gC0
    have hts := fun i hi => eZ _ _ (hts0 i hi)
    have hu := eZ _ _ hu0
    have pu : Paired (St H1) us ss := Paired.imp (fun _ _ z => St.same z eZ) pu0
    have lu := pu.length
    have lc : ((OM.row ss.length ts).map V.ref).length = ss.length := by rw [List.length_map, OM.row_len]
    refine ⟨_, rfl, _, rfl, b, a, _, _, rfl, SqL.of gC, SqL.of hu, fun D nD => ?_⟩
    have ml : ((OM.lateL ss m).map V.int).length = ss.length := by unfold OM.lateL; rw [List.length_map, OM.row_len]
    refine lc_it (walk_zip (xs := (OM.row ss.length ts).map V.ref) (ys := us) (n := ss.length) (by rw [lc]; omega)) (AccP D H1 (mapTo ((OM.lateL ss m).map V.int))) (acc_start rfl) (fun i G _ z => ⟨Same.seq (acc_same z (Same.refl H1) nD) (SqL.of gC), Same.seq (acc_same z (Same.refl H1) nD) (SqL.of hu)⟩) (fun i x G G' hi z y => ?_) (fun G z => ?_)
    · obtain ⟨T', x1, x2, rfl, hT, rfl, hx1, hx2⟩ := y
      have hx1 : ((OM.row ss.length ts).map V.ref)[i]? = some x1 := hx1
      rw [List.getElem?_map, OM.row_at hi] at hx1
      obtain rfl := Option.some.inj hx1
      obtain ⟨t, ht1, ht2⟩ := row_in hu pu hi
      have hx2 : us[i]? = some x2 := hx2
      rw [ht1] at hx2
      obtain rfl := Option.some.inj hx2
      have eG : Same H1 (upd G T' (.tup [.ref (ts i), .ref t])) := (acc_same z (Same.refl H1) nD).trans (Same.new hT)
      have hc := eG _ _ (hts i hi)
      have hd := eG _ _ ht2
      have hl2 : ((OM.lateL ss m).map V.int)[i]? = some (.int ((OM.refW ss m).ds i - (OM.sOf ss i).1)) := by
        unfold OM.lateL
        rw [List.getElem?_map, OM.row_at hi] <;> rfl
      have fin := fun (v : V) (hv : v = .int ((OM.refW ss m).ds i - (OM.sOf ss i).1)) => acc_in (y := v) z (Same.new (u := .tup [V.ref (ts i), V.ref t]) hT) (mapTo_len (by rw [ml, sizeLine_eq]; omega)) (mapTo_succ (by rw [hl2, hv]))
      clear hl2
      generalize (OM.refW ss m).ds i = d1 at *
      generalize (OM.refW ss m).as i = c1 at *
      generalize OM.sOf ss i = s1 at *
      refine ⟨T', _, rfl, SqT.of upd_same, rfl, .ref (ts i), _, rfl, .ref t, _, rfl, rfl, rfl, ?_⟩
      dsimp only [tYes]
      rw [if_pos rfl]
      exact ⟨_, rfl, ts i, _, ((0 : Nat) : Int), .int d1, rfl, rfl, SqT.of hc, atI_nat rfl, _, rfl, t, _, ((0 : Nat) : Int), .int s1.1, rfl, rfl, SqT.of hd, atI_nat rfl, d1, s1.1, rfl, rfl, fin _ rfl⟩
    rw [← ml] at z
    have gD : G D = some (.lst ((OM.lateL ss m).map V.int)) := by rw [z.2, mapTo_all]
    have e2 : Same H1 G := acc_same z (Same.refl H1) nD
    refine ⟨Z, D, _, _, rfl, rfl, e2 _ _ gZ, gD, ?_, fun L nL => ⟨L, 0 :: OM.lateL ss m, rfl, SqL.of ?_, by simp, fun mm hm hle => ?_⟩⟩
    · rw [sizeLine_eq, ml]
      show 1 + _ ≤ _
      omega
    · rw [upd_same] <;> rfl
    · have em := OM.worst_eq hm hle
      rw [← em]
      exact q _ ((eZ.trans e2).trans (Same.new nL))
theorem scLChain : FnScope Nc2 ["stays", "late", "index"] (defScope sLChain) := ⟨rfl, rfl, rfl, by decide +kernel, rfl, by decide +kernel, by decide +kernel⟩
theorem ok_lchain {f : Addr} {fd : FuncData} (F : Fun K "_law_chain" "_law_chain" sLChain f fd) (le : mg "len" = none) (rg : mg "range" = none) : FnOk P w K mg base CX0 1 f fd ["stays", "late", "index"] spLChain := by
  refine F.ok scLChain (fun vs H Q E h => ?_) (fun cdv A outer s H vs Q E hr h => ?_)
  · obtain ⟨a, b, ss, m, i, rfl, _⟩ := h
    rfl
  · obtain ⟨a, b, ss, m, i, rfl, row, g, arow, hl, m0, hi, q⟩ := h
    have nd := scLChain.nd
    refine ⟨_, pss_cons (ps_set (i := 3) nd rfl (Or.inr rfl) (pe_lst (pa_cons (pv 2) pa_nil)))
      (pss_cons (ps_while PassesOwn.never (pt_cmpR op_gt (pe_ix ix_tup (pe_ix ix_list (pv 1) (pe_ix ix_list (pv 3) pe_int (fun _ _ => rfl)) (fun _ _ => rfl)) pe_int (fun _ _ => rfl)) (pe_ix ix_tup (pe_ix ix_list (pv 0) (pe_ix ix_list (pv 3) pe_int (fun _ _ => rfl)) (fun _ _ => rfl)) pe_int (fun _ _ => rfl)) (nomark _))
        (pss_cons (ps_asg (pe_ix ix_list (pv 1) (pe_ix ix_list (pv 3) pe_int (fun _ _ => rfl)) (fun _ _ => rfl)) (pg_tup (by rfl) (pgs_cons (pg_name (i := 4) nd rfl (Or.inr rfl)) (pgs_cons (pg_name (i := 5) nd rfl (Or.inr rfl)) pgs_nil))))
        (pss_cons (ps_setLc (i := 6) (own := [("at", 7)]) (g := gName 7) (tt := tAnd (tTest (tOp rNe (tVar 7) (tOp (rIxL K) (tVar 3) (tC (.int 0))))) (tAnd (tTest (tOp rEq (tOp (rIxT K) (tOp (rIxL K) (tVar 1) (tVar 7)) (tC (.int 1))) (tVar 5)))
              (tTest (tOp rEq (tOp (rI0 fun i j => .int (i + j)) (tOp (rI0 fun i j => .int (i - j)) (tOp (rI0 fun i j => .int (i + j)) (tOp (rIxT K) (tOp (rIxL K) (tVar 1) (tVar 7)) (tC (.int 0))) (tOp (rIxT K) (tOp (rIxL K) (tVar 0) (tVar 7)) (tC (.int 1)))) (tOp (rIxT K) (tOp (rIxL K) (tVar 0) (tVar 7)) (tC (.int 0)))) (tOp (rIxT K) (tOp (rIxL K) (tVar 0) (tVar 7)) (tC (.int 2)))) (tOp (rI0 fun i j => .int (i - j)) (tVar 4) (tC (.int 1)))))))
            rfl nd rfl rfl (sw_true rfl rfl rfl (by decide +kernel)) (pi_range1 (by rfl) rg (pa_cons (pe_callB call_len_seq (by rfl) le PySem.boot_len (pa_cons (pv 0) pa_nil)) pa_nil))
            (blkOk_by (N := Nc2) (sc := defScope sLChain) (by decide +kernel)) (fun _ _ _ _ _ => pg_name (i := 7) nd rfl (Or.inl rfl))
            (fun _ _ _ _ _ => pts_one (PW.pt (pw_and (pt_cmpR op_ne (pv 7) (pe_ix (ix_listK (K := K) rfl) (pv 3) pe_int (fun _ _ => rfl)) (nomark _)) (pw_and (pt_cmpR op_eq (pe_ix (ix_tupK (K := K) rfl) (pe_ix (ix_listK (K := K) rfl) (pv 1) (pv 7) (fun _ _ => rfl)) pe_int (fun _ _ => rfl)) (pv 5) (nomark _))
              (pw_and1 (pt_cmpR op_eq (pe_op op_add (pe_op op_sub (pe_op op_add (pe_ix (ix_tupK (K := K) rfl) (pe_ix (ix_listK (K := K) rfl) (pv 1) (pv 7) (fun _ _ => rfl)) pe_int (fun _ _ => rfl)) (pe_ix (ix_tupK (K := K) rfl) (pe_ix (ix_listK (K := K) rfl) (pv 0) (pv 7) (fun _ _ => rfl)) pe_int (fun _ _ => rfl))) (pe_ix (ix_tupK (K := K) rfl) (pe_ix (ix_listK (K := K) rfl) (pv 0) (pv 7) (fun _ _ => rfl)) pe_int (fun _ _ => rfl))) (pe_ix (ix_tupK (K := K) rfl) (pe_ix (ix_listK (K := K) rfl) (pv 0) (pv 7) (fun _ _ => rfl)) pe_int (fun _ _ => rfl))) (pe_op op_sub (pv 4) pe_int) (nomark _)))))))
            (fun _ _ _ _ _ => pv 7))
        (pss_one (ps_set (i := 3) nd rfl (Or.inr rfl) (pe_op op_cat (pv 6) (pv 3)))))))
      (pss_one (ps_ret (pv 3)))), ?_⟩
    obtain ⟨ts, gb0, hts0⟩ := arow
    obtain ⟨us, hu0, pu0⟩ := id row
    have lu := pu0.length
    have back : ∀ {l : Nat}, l < ss.length → (OM.sOf ss l).1 < (OM.refW ss m).ds l → ∃ j, (OM.refW ss m).cs l = some j ∧ j < ss.length ∧ (OM.refW ss m).ds j < (OM.refW ss m).ds l ∧ (List.range ss.length).filter (OM.aheadB ss (OM.refW ss m) l) = [j] := fun hl2 lt => OM.ahead_one g m0 hl2 lt
    have stop : ∀ {l : Nat}, l < ss.length → ¬ (OM.sOf ss l).1 < (OM.refW ss m).ds l → (OM.refW ss m).cs l = none := fun hl2 z => (OM.no_cause g m0 hl2).mpr z
    generalize OM.refW ss m = x at *
    refine ⟨_, rfl, by show 1 ≤ sizeLine; decide, fun R nR => ?_⟩
    have eR : Same H (upd H R (.lst [V.int ((i : Nat) : Int)])) := Same.new nR
    have gR : (upd H R (.lst [V.int ((i : Nat) : Int)])) R = some (.lst ((i :: []).map natV)) := upd_same
    generalize upd H R (.lst [V.int ((i : Nat) : Int)]) = H1 at eR gR
    have c0 : OM.cntW ss.length x.ds (x.ds i - 1) + 1 ≤ ss.length := Nat.le_trans (cnt_less (t := x.ds i) hi (by omega) (Int.le_refl _)) (cnt_le _ _ _)
    refine while_go (fun mm σ G => ∃ (R : Addr) (l : Nat) (ys : List Nat) (o4 o5 o6 : Option V), σ = [some (.ref a), some (.ref b), some (.int ((i : Nat) : Int)), some (.ref R), o4, o5, o6, none] ∧ Same H G ∧ H R = none ∧ G R = some (.lst ((l :: ys).map natV)) ∧ l < ss.length ∧ (∀ zs, OM.Back x.cs l zs → OM.Back x.cs i (ys.reverse ++ zs)) ∧ ys.length + 1 + OM.cntW ss.length x.ds (x.ds l - 1) ≤ ss.length ∧ mm = OM.cntW ss.length x.ds (x.ds l - 1))
      ⟨_, R, i, [], _, _, _, rfl, eR, nR, gR, hi, fun zs h => h, by simp; omega, rfl⟩ (fun mm σ G z => ?_) (fun σ G Q Q' hq h => ?_)
    · obtain ⟨R, l, ys, o4, o5, o6, rfl, eG, nRH, gR, ll, bk, len, rfl⟩ := z
      have gb := eG _ _ gb0
      have hts := fun j hj => eG _ _ (hts0 j hj)
      have hu := eG _ _ hu0
      have pu : Paired (St G) us ss := Paired.imp (fun _ _ z => St.same z eG) pu0
      obtain ⟨t, ht1, ht2⟩ := row_in hu pu ll
      have at2 : atI ((OM.row ss.length ts).map V.ref) ((l : Nat) : Int) = some (.ref (ts l)) := atI_nat (by rw [List.getElem?_map, OM.row_at ll] <;> rfl)
      refine ⟨_, rfl, _, rfl, R, _, ((0 : Nat) : Int), natV l, rfl, rfl, SqL.of gR, atI_nat rfl, b, _, (l : Nat), .ref (ts l), rfl, rfl, SqL.of gb, at2, ts l, _, ((0 : Nat) : Int), .int (x.ds l), rfl, rfl, SqT.of (hts l ll), atI_nat rfl, ?_⟩
      refine ⟨_, rfl, _, rfl, R, _, ((0 : Nat) : Int), natV l, rfl, rfl, SqL.of gR, atI_nat rfl, a, us, (l : Nat), .ref t, rfl, rfl, SqL.of hu, atI_nat ht1, t, _, ((0 : Nat) : Int), .int (OM.sOf ss l).1, rfl, rfl, SqT.of ht2, atI_nat rfl, _, _, rfl, rfl, _, rfl, ?_⟩
      refine ite2 (fun h => ?_) (fun h => ?_)
      · have lt := of_decide_eq_true h
        obtain ⟨j, hc, jl, dl, one⟩ := back ll lt
        refine ⟨_, rfl, _, rfl, R, _, ((0 : Nat) : Int), natV l, rfl, rfl, SqL.of gR, atI_nat rfl, b, _, (l : Nat), .ref (ts l), rfl, rfl, SqL.of gb, at2, ts l, _, rfl, SqT.of (hts l ll), rfl, .int (x.ds l), _, rfl, .int ((x.as l : Nat) : Int), _, rfl, rfl, ?_⟩
        refine ⟨_, rfl, a, us, rfl, .inl (SqL.of hu), _, rfl, by omega, by omega, fun D nD => ?_⟩
        have tn : (((us.length : Nat) : Int)).toNat = ss.length := by omega
        have lenF : ∀ k, ((List.range k).filter (OM.aheadB ss x l)).length ≤ k := fun k => by
          have := List.length_filter_le (OM.aheadB ss x l) (List.range k)
          rw [List.length_range] at this
          exact this
        refine lc_it walk_range (AccP D G (fun k => ((List.range k).filter (OM.aheadB ss x l)).map natV)) (acc_start rfl) (fun _ _ _ _ => trivial) (fun k y J J' hk z yy => ?_) (fun J z => ?_)
        · obtain ⟨rfl, rfl⟩ := yy
          rw [tn] at hk
          have eJ : Same G J' := acc_same z (Same.refl G) nD
          have gR := eJ _ _ gR
          have gb := eJ _ _ gb
          have htk := eJ _ _ (hts k hk)
          have hu := eJ _ _ hu
          obtain ⟨t2, hk1, hk2⟩ := row_in (eG _ _ hu0) pu hk
          have hk2 := eJ _ _ hk2
          have atk : atI ((OM.row ss.length ts).map V.ref) ((k : Nat) : Int) = some (.ref (ts k)) := atI_nat (by rw [List.getElem?_map, OM.row_at hk] <;> rfl)
          have st : (List.range (k + 1)).filter (OM.aheadB ss x l) = (List.range k).filter (OM.aheadB ss x l) ++ (if OM.aheadB ss x l k = true then [k] else []) := by
            rw [List.range_succ, List.filter_append]
            congr 1
            cases hb : OM.aheadB ss x l k <;> simp [hb]
          have no := fun (h : OM.aheadB ss x l k = false) => acc_out (D := D) (H1 := G) (acc := fun k => ((List.range k).filter (OM.aheadB ss x l)).map natV) z (Same.refl _) (by rw [st, h, if_neg (by simp), List.append_nil])
          dsimp only [gName]
          rw [Int.zero_add]
          refine ⟨rfl, ?_⟩
          refine ⟨_, rfl, _, rfl, R, _, ((0 : Nat) : Int), natV l, rfl, rfl, SqL.of gR, atI_nat rfl, rfl, _, rfl, ?_⟩
          refine ite2 (fun n1 => ?_) (fun n1 => ?_)
          · have n1 : k ≠ l := fun z => by
              rw [z] at n1
              simp [natV] at n1
            refine ⟨_, rfl, _, rfl, b, _, (k : Nat), .ref (ts k), rfl, rfl, SqL.of gb, atk, ts k, _, ((1 : Nat) : Int), .int ((x.as k : Nat) : Int), rfl, rfl, SqT.of htk, atI_nat rfl, _, rfl, rfl, _, rfl, ?_⟩
            refine ite2 (fun n2 => ?_) (fun n2 => ?_)
            · have n2 : x.as k = x.as l := by
                have := V.int.inj (of_decide_eq_true n2)
                omega
              have bf : OM.aheadB ss x l k = decide (x.ds k + (OM.sOf ss k).2.1 - (OM.sOf ss k).1 + (OM.sOf ss k).2.2 = x.ds l - 1) := by
                unfold OM.aheadB
                simp [n1, n2]
              generalize OM.sOf ss k = s2 at *
              refine ⟨_, rfl, _, rfl, b, _, (k : Nat), .ref (ts k), rfl, rfl, SqL.of gb, atk, ts k, _, ((0 : Nat) : Int), .int (x.ds k), rfl, rfl, SqT.of htk, atI_nat rfl, ?_⟩
              refine ⟨_, rfl, _, rfl, a, us, (k : Nat), .ref t2, rfl, rfl, SqL.of hu, atI_nat hk1, t2, _, ((1 : Nat) : Int), .int s2.2.1, rfl, rfl, SqT.of hk2, atI_nat rfl, _, _, rfl, rfl, ?_⟩
              refine ⟨_, rfl, _, rfl, a, us, (k : Nat), .ref t2, rfl, rfl, SqL.of hu, atI_nat hk1, t2, _, ((0 : Nat) : Int), .int s2.1, rfl, rfl, SqT.of hk2, atI_nat rfl, _, _, rfl, rfl, ?_⟩
              refine ⟨_, rfl, _, rfl, a, us, (k : Nat), .ref t2, rfl, rfl, SqL.of hu, atI_nat hk1, t2, _, ((2 : Nat) : Int), .int s2.2.2, rfl, rfl, SqT.of hk2, atI_nat rfl, _, _, rfl, rfl, ?_⟩
              refine ⟨_, rfl, _, _, rfl, rfl, rfl, _, rfl, ?_⟩
              refine ite2 (fun n3 => ?_) (fun n3 => ?_)
              · have n3 : x.ds k + s2.2.1 - s2.1 + s2.2.2 = x.ds l - 1 := V.int.inj (of_decide_eq_true n3)
                rw [decide_eq_true n3] at bf
                rw [if_pos bf] at st
                refine ⟨_, rfl, acc_in z (Same.refl _) ?_ (by rw [st, List.map_append] <;> rfl)⟩
                rw [List.length_map, sizeLine_eq]
                have := lenF k
                omega
              · have n3 : ¬ x.ds k + s2.2.1 - s2.1 + s2.2.2 = x.ds l - 1 := fun e => n3 (decide_eq_true (congrArg V.int e))
                rw [decide_eq_false n3] at bf
                exact no bf
            · refine iteF (no ?_)
              have n2 : ¬ x.as k = x.as l := fun e => n2 (decide_eq_true (by rw [e]))
              unfold OM.aheadB
              simp [n2]
          · refine iteF (no ?_)
            have n1 : k = l := by
              refine Classical.byContradiction fun z => n1 ?_
              have : ¬ (V.int ((k : Nat) : Int) = natV l) := fun e => z (by
                have := V.int.inj e
                omega)
              rw [decide_eq_false this] <;> rfl
            unfold OM.aheadB
            simp [n1]
        · rw [tn] at z
          have gD : J D = some (.lst ([j].map natV)) := by
            have := z.2
            dsimp only at this
            rw [one] at this
            exact this
          have eJ : Same G J := acc_same z (Same.refl G) nD
          have less := cnt_less (n := ss.length) (f := x.ds) (s := x.ds j - 1) (t := x.ds l - 1) jl (by omega) (by omega)
          refine ⟨_, rfl, _, rfl, D, R, _, _, rfl, rfl, gD, eJ _ _ gR, ?_, fun R2 nR2 => ?_⟩
          · rw [List.length_map, List.length_map, List.length_cons, sizeLine_eq]
            simp
            omega
          · refine ⟨_, ?_, R2, j, l :: ys, _, _, _, rfl, (eG.trans eJ).trans (Same.new nR2), (eG.trans eJ).free nR2, ?_, jl, fun zs h => ?_, ?_, rfl⟩
            · omega
            · rw [upd_same] <;> rfl
            · rw [List.reverse_cons, List.append_assoc]
              exact bk _ (.more hc h)
            · rw [List.length_cons]
              omega
      · have no : ¬ (OM.sOf ss l).1 < x.ds l := fun y => h (decide_eq_true y)
        exact ⟨_, rfl, q G R (ys.reverse ++ [l]) eG nRH (bk [l] (.one (stop ll no))) (by rw [gR, List.reverse_append, List.reverse_reverse] <;> rfl)⟩
    · obtain ⟨z1_0, z1_1, z2_0, z2_1, z3_0, z3_1, z3_2, z3_3, z3_4, z3_5, z3_6, z3_7, z4_0, z4_1, z4_2, z4_3, z4_4, z4_5, z4_6, z4_7, z5_0, z5_1, z5_2, z5_3, z5_4, z5_5, z5_6, z5_7, z6_0, z6_1, z7_0, z7_1, z8_0, z8_1, z8_2, z8_3, z8_4, z8_5, z8_6, z8_7, z9_0, z9_1, z9_2, z9_3, z9_4, z9_5, z9_6, z9_7, z10_0, z10_1, z10_2, z10_3, z10_4, z10_5, z10_6, z10_7, z11_0, z11_1, z11_2, z11_3, z12_0, z12_1, q⟩ := h
      exact ⟨z1_0, z1_1, z2_0, z2_1, z3_0, z3_1, z3_2, z3_3, z3_4, z3_5, z3_6, z3_7, z4_0, z4_1, z4_2, z4_3, z4_4, z4_5, z4_6, z4_7, z5_0, z5_1, z5_2, z5_3, z5_4, z5_5, z5_6, z5_7, z6_0, z6_1, z7_0, z7_1, z8_0, z8_1, z8_2, z8_3, z8_4, z8_5, z8_6, z8_7, z9_0, z9_1, z9_2, z9_3, z9_4, z9_5, z9_6, z9_7, z10_0, z10_1, z10_2, z10_3, z10_4, z10_5, z10_6, z10_7, z11_0, z11_1, z11_2, z11_3, z12_0, z12_1, hq _ _ q⟩
end
end OB
namespace OB
open PySem PySem.Spec PyProof.Rows L2 LamX
/-- what refuses what are no stays, then what is no number from 1 on -/
structure RefusesO (K : PySem.W.Frag) (CS CM : Addr) (sp : Sp) : Prop where
  wrong : ∀ {v m : V} {k : Kd} {i : Nat} {H : Hp} {Q : VK} {E : XK}, ArgS K H v (.inl i) → Any K H m k → Bad E H CS "index" (.int (i : Nat)) → sp [v, m] H Q E
  odd : ∀ {v m : V} {k : Kd} {ss : List S3} {H : Hp} {Q : VK} {E : XK}, ArgS K H v (.inr ss) → ss.length ≤ 100 → Any K H m k → oneV m = false → Bad E H CM "many" m → sp [v, m] H Q E
theorem one_no {m : V} {n : Nat} (h : oneV m = false) (e : m = .int (n : Nat)) (n0 : 0 < n) : False := by
  rw [e] at h
  have z : decide ((1 : Int) ≤ ((n : Nat) : Int)) = false := h
  rw [decide_eq_true (by omega)] at z
  cases z
theorem one_of_num {m : V} (h : numV m = false) : oneV m = false := by
  cases m with
  | int i =>
    have z : decide (0 ≤ i) = false := h
    have z := of_decide_eq_false z
    exact decide_eq_false (by omega)
  | _ => rfl
theorem ref_lateB {TT : List (Addr × Str)} {K : PySem.W.Frag} {CS CM : Addr} : RefusesO K CS CM (spLateB TT K CS CM) where
  wrong := fun {v m k i H Q E} a b c => ⟨v, m, k, .inl i, rfl, a, b, (fun j e => by obtain rfl := Sum.inl.inj e; exact c), fun ss e => by cases e⟩
  odd := fun {v m k ss H Q E} a l b n c => ⟨v, m, k, .inr ss, rfl, a, b, (fun j e => by cases e), fun s2 e => by
    obtain rfl := Sum.inr.inj e
    exact ⟨l, fun _ => c, fun i ei i0 => (one_no n ei i0).elim⟩⟩
theorem ref_latest {TT : List (Addr × Str)} {K : PySem.W.Frag} {CS CM : Addr} : RefusesO K CS CM (spLatest TT K CS CM) where
  wrong := fun {v m k i H Q E} a b c => ⟨v, m, k, .inl i, rfl, a, b, (fun j e => by obtain rfl := Sum.inl.inj e; exact c), fun ss e => by cases e⟩
  odd := fun {v m k ss H Q E} a l b n c => ⟨v, m, k, .inr ss, rfl, a, b, (fun j e => by cases e), fun s2 e => by
    obtain rfl := Sum.inr.inj e
    exact ⟨l, fun _ => c, fun i ei i0 => (one_no n ei i0).elim⟩⟩
section
variable {TT : List (Addr × Str)} {p F U : Addr} {n : Nat} {H0 G H3 G4 : Hp} {rs ds es zs : List V} {ws wd we : List (Str × V)}
theorem FS.put (h : FS TT p n H0 F rs ws G) (pe : Paired (LRes G) es we) (ne : ∀ r ∈ es, r ≠ .ref F) : FS TT p n H0 F (rs ++ es) (ws ++ we) (upd G F (.lst (rs ++ es))) := by
  refine ⟨⟨fun b o nb m eb => ?_, h.s.src.put h.np, Tabs.putL h.s.tabs h.at_⟩, h.new, h.np, upd_same, Paired.app (res_put h.res h.notF) (res_put pe ne), fun r m => ?_⟩
  · rw [upd_ne (fun z => h.new o m (by rw [← z]; exact eb))]
    exact h.s.but b o nb m eb
  · rcases List.mem_append.mp m with z | z
    · exact h.notF r z
    · exact ne r z
theorem FS.other (h : FS TT p n H0 U ds wd G) (f : FS TT p n H0 F rs ws G) (ne : F ≠ U) (c : ∀ r ∈ ds, r ≠ .ref F) : FS TT p n H0 U ds wd (upd G F (.lst zs)) := by
  refine ⟨⟨fun b o nb m eb => ?_, f.s.src.put f.np, Tabs.putL f.s.tabs f.at_⟩, h.new, h.np, by rw [upd_ne (Ne.symm ne)]; exact h.at_, res_put h.res c, h.notF⟩
  rw [upd_ne (fun z => f.new o m (by rw [← z]; exact eb))]
  exact h.s.but b o nb m eb
/-- two lists of answers, what was found and what is due -/
structure FD (TT : List (Addr × Str)) (p : Addr) (n : Nat) (H0 : Hp) (F U : Addr) (rs ds : List V) (ws wd : List (Str × V)) (G : Hp) : Prop where
  f : FS TT p n H0 F rs ws G
  u : FS TT p n H0 U ds wd G
  ne : F ≠ U
  cu : ∀ r ∈ ds, r ≠ .ref F
  cf : ∀ r ∈ rs, r ≠ .ref U
theorem FD.ext (h : FD TT p n H0 F U rs ds ws wd G) (e : ExtN G H3) (t : Tabs TT H3) : FD TT p n H0 F U rs ds ws wd H3 := ⟨h.f.ext e t, h.u.ext e t, h.ne, h.cu, h.cf⟩
theorem FD.same (h : FD TT p n H0 F U rs ds ws wd G) (e : Same G H3) : FD TT p n H0 F U rs ds ws wd H3 := ⟨h.f.same e, h.u.same e, h.ne, h.cu, h.cf⟩
theorem FD.more {T : Addr} {x : Str} {v : V} (h : FD TT p n H0 F U rs ds ws wd G) (e : ExtN G H3) (t : Tabs TT H3) (e4 : Same H3 G4) (nT : H3 T = none) (gT : G4 T = some (.lst [.str x, v])) :
    G4 F = some (.lst rs) ∧ FD TT p n H0 F U (rs ++ [.ref T]) ds (ws ++ [(x, v)]) wd (upd G4 F (.lst (rs ++ [.ref T]))) := by
  have h3 := h.ext e t
  have h4 := h3.same e4
  have TF : T ≠ F := fun z => by
    have := h3.f.at_
    rw [← z, nT] at this
    cases this
  have TU : T ≠ U := fun z => by
    have := h3.u.at_
    rw [← z, nT] at this
    cases this
  refine ⟨h4.f.at_, h4.f.put (.cons ⟨T, rfl, gT⟩ .nil) (fun r m => ?_), h4.u.other h4.f h4.ne h4.cu, h4.ne, h4.cu, fun r m => ?_⟩
  · rw [List.mem_singleton.mp m]
    exact fun y => TF (V.ref.inj y)
  · rcases List.mem_append.mp m with z | z
    · exact h4.cf r z
    · rw [List.mem_singleton.mp z]
      exact fun y => TU (V.ref.inj y)
theorem FD.grow (h : FD TT p n H0 F U rs ds ws wd G) (pe : Paired (LRes G) es we) (ne : ∀ r ∈ es, r ≠ .ref F ∧ r ≠ .ref U) : FD TT p n H0 F U rs (ds ++ es) ws (wd ++ we) (upd G U (.lst (ds ++ es))) :=
  ⟨h.f.other h.u (Ne.symm h.ne) h.cf, h.u.put pe (fun r m => (ne r m).2), h.ne, fun r m => (List.mem_append.mp m).elim (h.cu r) (fun z => (ne r z).1), h.cf⟩
end
abbrev sRef : Stmt := top 39
def qRef : Str := "_law_refused_right.<locals>.<lambda>"
def Nr : List Str := ["stream", "stays", "at", "odd", "wrong", "found", "due", "ask"]
abbrev wp (t : Str) (v : V) : Str × V := (t, v)
def OkW (odd : V) (y : Str × V) : Prop := y.1.length ≤ 100 ∧ (y.2 = odd ∨ ∃ i : Int, y.2 = .int i)
def StD (TT : List (Addr × Str)) (p : Addr) (n : Nat) (H0 : Hp) (a : Addr) (m : Nat) (odd : V) (W : Addr) (oa : Option V) (ws wd : List (Str × V)) (σ : L2.St) (G : Hp) : Prop :=
  ∃ F U rs ds, σ = [some (.ref p), some (.ref a), some (.int (m : Nat)), some odd, some (.ref W), some (.ref F), some (.ref U), oa] ∧ FD TT p n H0 F U rs ds ws wd G
def spRef (TT : List (Addr × Str)) : Sp := fun vs H Q _ => ∃ (p a : Addr) (ss : List S3) (n : Nat), vs = [.ref p, .ref a] ∧ Src n H p ∧ n < 900000000 ∧ Row H a ss ∧ a ≠ p ∧ Good ss ∧ ss.length ≤ 60 ∧ Tabs TT H ∧ ∀ H', ButN p H H' → Src (n + 3) H' p → Tabs TT H' → Q (.bl true) H'
section
variable {P : Program} {w : World} {K : PySem.W.Frag} {mg : Str → Option Value} {base : Heap}
theorem scRef : FnScope Nr ["stream", "stays"] (defScope sRef) := ⟨rfl, rfl, rfl, by decide +kernel, rfl, by decide +kernel, by decide +kernel⟩
theorem ok_refR {f c Pt fD fP fO fS fT fB fLa fWy fAd fX : Addr} {fd fdD fdP fdO fdS fdT fdB fdLa fdWy fdAd : FuncData} {oX : Obj} {C : Cls5} {TT : List (Addr × Str)} (F : FunC K "_law_refused_right" "_law_refused_right" sRef f fd c) (T : TxtC mg)
    (GD : FnOk P w K mg base CX0 1 fD fdD ["stream", "many"] spDraw) (gD : mg "_law_draw" = some (.ref fD)) (kD : PySem.W.keepIn K (.ref fD) = true) (bD : Binds K fdD ["stream", "many"] [])
    (GP : FnOk P w K mg base CX0 2 fP fdP ["stream", "things"] (spPick K)) (gP : mg "_law_pick" = some (.ref fP)) (kP : PySem.W.keepIn K (.ref fP) = true) (bP : Binds K fdP ["stream", "things"] [])
    (GO : FnOk P w K mg base CX0 3 fO fdO ["stream"] (spOdd K)) (gO : mg "_law_odd_stay" = some (.ref fO)) (kO : PySem.W.keepIn K (.ref fO) = true) (bO : Binds K fdO ["stream"] [])
    (GS : FnOk P w K mg base CX0 5 fS fdS ["found", "due"] (spSame (SameV K 4))) (gS : mg "_law_same" = some (.ref fS)) (kS : PySem.W.keepIn K (.ref fS) = true) (bS : Binds K fdS ["found", "due"] [])
    (FT : Fun K "_law_met" "_law_met" sMet fT fdT) (bT : Binds K fdT ["ask"] []) (gT : mg "_law_met" = some (.ref fT)) (ME : MetK K mg C)
    (GB : FnOk P w K mg base (L2.CX P w) 6 fB fdB ["stays", "many"] (spLateB TT K C.S C.M)) (gB : mg "late_begins" = some (.ref fB)) (kB : PySem.W.keepIn K (.ref fB) = true) (bB : Binds K fdB ["stays", "many"] [])
    (GLa : FnOk P w K mg base (L2.CX P w) 6 fLa fdLa ["stays", "many"] (spLatest TT K C.S C.M)) (gLa : mg "latest" = some (.ref fLa)) (kLa : PySem.W.keepIn K (.ref fLa) = true) (bLa : Binds K fdLa ["stays", "many"] [])
    (GWy : FnOk P w K mg base (L2.CX P w) 6 fWy fdWy ["stays", "many", "index"] (spWay TT K C.S C.M C.I)) (gWy : mg "in_the_way" = some (.ref fWy)) (kWy : PySem.W.keepIn K (.ref fWy) = true) (bWy : Binds K fdWy ["stays", "many", "index"] [])
    (GAd : FnOk P w K mg base (L2.CX P w) 6 fAd fdAd ["stays", "late"] (spAddr TT K C.S C.D)) (gAd : mg "addresses_for" = some (.ref fAd)) (kAd : PySem.W.keepIn K (.ref fAd) = true) (bAd : Binds K fdAd ["stays", "late"] [])
    (gX : mg "_law_late" = some (.ref fX)) (lX : K.lookup fX = some oX) (cX : oX.cls = .type "function")
    (TB : TabB base mg c Pt) (hT : ∀ y ∈ TT, y.1 = Pt → y.2 = qRef) (mT : (Pt, qRef) ∈ TT) : FnOk P w K mg base CX0 9 f fd ["stream", "stays"] (spRef TT) := by
  obtain ⟨ocT, odT, kVT, docT, pmT, anT, cdT, ctT, oslT, rfl, lkT, hcT⟩ := FT.ex
  refine F.ok scRef (fun vs H Q E h => ?_) (fun A outer s H vs Q E hr h => ?_)
  · obtain ⟨p, a, ss, n, rfl, _⟩ := h
    rfl
  · obtain ⟨p, a, ss, n, rfl, S, hn, row, np, g, hl, tabs, q⟩ := h
    have nd := scRef.nd
    have hr1 := hr.mono (show 1 ≤ 8 by decide)
    have hr2 := hr.mono (show 2 ≤ 8 by decide)
    have hr3 := hr.mono (show 3 ≤ 8 by decide)
    have hr5 := hr.mono (show 5 ≤ 8 by decide)
    refine ⟨_, pss_cons (ps_asg (pe_tup (pa_cons (pe_call GD hr1 (by rfl) gD kD bD .nil pass0 (pa_cons (pv 0) (pa_cons (pe_op op_add (pe_callB call_len_seq (by rfl) T.len PySem.boot_len (pa_cons (pv 1) pa_nil)) pe_int) pa_nil))) (pa_cons (pe_call GP hr2 (by rfl) gP kP bP .nil pass0 (pa_cons (pv 0) (pa_cons (pe_lst (pa_cons (pe_un un_neg pe_int) (pa_cons pe_non (pa_cons pe_bl (pa_cons pe_str (pa_cons (pe_lst (pa_cons pe_int pa_nil)) (pa_cons (pe_tup pa_nil) (pa_cons pe_dnewK (pa_cons (pe_glob (v := .ref fX) (by rfl) gX rfl) pa_nil))))))))) pa_nil))) pa_nil))) (pg_tup (by rfl) (pgs_cons (pg_name (i := 2) nd rfl (Or.inl rfl)) (pgs_cons (pg_name (i := 3) nd rfl (Or.inr rfl)) pgs_nil))))
      (pss_cons (ps_set (i := 4) nd rfl (Or.inr rfl) (pe_op op_cat (pe_op op_cat (pe_slice sl_list (pv 1) po_none (po_some (pv 2))) (pe_lst (pa_cons (pe_call GO hr3 (by rfl) gO kO bO .nil pass0 (pa_cons (pv 0) pa_nil)) (pa_cons pe_non pa_nil)))) (pe_slice sl_list (pv 1) (po_some (pv 2)) po_none)))
      (pss_cons (ps_par (i := 5) (j := 6) (by rfl) nd rfl rfl (by decide) rfl rfl (pa_cons (pe_lst pa_nil) (pa_cons (pe_lst pa_nil) pa_nil)) (by rfl))
      (pss_cons (ps_for PassesOwn.never rfl (pi_tup (pe_tup (pa_cons (pe_glob (v := .ref fB) (by rfl) gB rfl) (pa_cons (pe_glob (v := .ref fLa) (by rfl) gLa rfl) pa_nil)))) (pg_name (i := 7) nd rfl (Or.inr rfl))
          (pss_cons (ps_expr (pe_bm PySem.F.plainAttrs_list PySem.F.slot_list_append PySem.F.type_list_append mt_append (pv 5) (pa_cons (pe_lamcall (k := 6) (T := TT) (t := fun E => tCallAH P w K mg base (L2.CX P w) 6 7 (fun _ => E) (tCons (tVar 4) (tCons (tC (.int 0)) tNil))) (TT := TTMet C) (by rfl) gT FT.kp lkT hcT bT scMet rfl (Or.inl rfl) (met_gives ME) TB rfl mT hT hr (lamS_by (sc := defScope sRef) (by decide +kernel)) rfl (fun _ _ _ _ _ => rfl) (fun A outer s H E f c' hr' => pe_callAH (i := 7) (E := fun _ => E) (CX := L2.CX P w) hr' rfl (by first | exact Or.inl rfl | exact Or.inr (Or.inl rfl) | exact Or.inr (Or.inr rfl)) (fun σ pins H s e s' I c => passes_call (takes_of rfl rfl rfl rfl) (fun _ _ _ _ h => h) pins σ H s e s' I c) (pa_cons (pv 4) (pa_cons pe_int pa_nil)))) pa_nil)))
          (pss_cons (ps_expr (pe_bm PySem.F.plainAttrs_list PySem.F.slot_list_append PySem.F.type_list_append mt_append (pv 5) (pa_cons (pe_lamcall (k := 6) (T := TT) (t := fun E => tCallAH P w K mg base (L2.CX P w) 6 7 (fun _ => E) (tCons (tVar 1) (tCons (tVar 3) tNil))) (TT := TTMet C) (by rfl) gT FT.kp lkT hcT bT scMet rfl (Or.inl rfl) (met_gives ME) TB rfl mT hT hr (lamS_by (sc := defScope sRef) (by decide +kernel)) rfl (fun _ _ _ _ _ => rfl) (fun A outer s H E f c' hr' => pe_callAH (i := 7) (E := fun _ => E) (CX := L2.CX P w) hr' rfl (by first | exact Or.inl rfl | exact Or.inr (Or.inl rfl) | exact Or.inr (Or.inr rfl)) (fun σ pins H s e s' I c => passes_call (takes_of rfl rfl rfl rfl) (fun _ _ _ _ h => h) pins σ H s e s' I c) (pa_cons (pv 1) (pa_cons (pv 3) pa_nil)))) pa_nil)))
          (pss_cons (ps_expr (pe_bm PySem.F.plainAttrs_list PySem.F.slot_list_append PySem.F.type_list_append mt_append (pv 5) (pa_cons (pe_lamcall (k := 6) (T := TT) (t := fun E => tCallAH P w K mg base (L2.CX P w) 6 7 (fun _ => E) (tCons (tVar 1) (tCons (tC (.int 0)) tNil))) (TT := TTMet C) (by rfl) gT FT.kp lkT hcT bT scMet rfl (Or.inl rfl) (met_gives ME) TB rfl mT hT hr (lamS_by (sc := defScope sRef) (by decide +kernel)) rfl (fun _ _ _ _ _ => rfl) (fun A outer s H E f c' hr' => pe_callAH (i := 7) (E := fun _ => E) (CX := L2.CX P w) hr' rfl (by first | exact Or.inl rfl | exact Or.inr (Or.inl rfl) | exact Or.inr (Or.inr rfl)) (fun σ pins H s e s' I c => passes_call (takes_of rfl rfl rfl rfl) (fun _ _ _ _ h => h) pins σ H s e s' I c) (pa_cons (pv 1) (pa_cons pe_int pa_nil)))) pa_nil)))
          (pss_one (ps_expr (pe_bm PySem.F.plainAttrs_list PySem.F.slot_list_extend PySem.F.type_list_extend mt_extend (pv 6) (pa_cons (pe_lst (pa_cons (pe_lst (pa_cons pe_str (pa_cons (pv 2) pa_nil))) (pa_cons (pe_lst (pa_cons pe_str (pa_cons (pv 3) pa_nil))) (pa_cons (pe_lst (pa_cons pe_str (pa_cons pe_int pa_nil))) pa_nil)))) pa_nil))))))))
      (pss_cons (ps_expr (pe_bm PySem.F.plainAttrs_list PySem.F.slot_list_append PySem.F.type_list_append mt_append (pv 5) (pa_cons (pe_lamcall (k := 6) (T := TT) (t := fun E => tCall (spWay TT K C.S C.M C.I) [] E (tCons (tVar 4) (tCons (tC (.int 0)) (tCons (tC .non) tNil)))) (TT := TTMet C) (by rfl) gT FT.kp lkT hcT bT scMet rfl (Or.inl rfl) (met_gives ME) TB rfl mT hT hr (lamS_by (sc := defScope sRef) (by decide +kernel)) rfl (fun _ _ _ _ _ => rfl) (fun A outer s H E f c' hr' => pe_call (E := E) GWy hr' (by rfl) gWy kWy bWy .nil (passes_call (takes_of rfl rfl rfl rfl) fun _ _ _ _ h => h) (pa_cons (pv 4) (pa_cons pe_int (pa_cons pe_non pa_nil))))) pa_nil)))
      (pss_cons (ps_expr (pe_bm PySem.F.plainAttrs_list PySem.F.slot_list_append PySem.F.type_list_append mt_append (pv 5) (pa_cons (pe_lamcall (k := 6) (T := TT) (t := fun E => tCall (spWay TT K C.S C.M C.I) [] E (tCons (tVar 1) (tCons (tVar 3) (tCons (tC .non) tNil)))) (TT := TTMet C) (by rfl) gT FT.kp lkT hcT bT scMet rfl (Or.inl rfl) (met_gives ME) TB rfl mT hT hr (lamS_by (sc := defScope sRef) (by decide +kernel)) rfl (fun _ _ _ _ _ => rfl) (fun A outer s H E f c' hr' => pe_call (E := E) GWy hr' (by rfl) gWy kWy bWy .nil (passes_call (takes_of rfl rfl rfl rfl) fun _ _ _ _ h => h) (pa_cons (pv 1) (pa_cons (pv 3) (pa_cons pe_non pa_nil))))) pa_nil)))
      (pss_cons (ps_expr (pe_bm PySem.F.plainAttrs_list PySem.F.slot_list_append PySem.F.type_list_append mt_append (pv 5) (pa_cons (pe_lamcall (k := 6) (T := TT) (t := fun E => tCall (spWay TT K C.S C.M C.I) [] E (tCons (tVar 1) (tCons (tC (.int 0)) (tCons (tC .non) tNil)))) (TT := TTMet C) (by rfl) gT FT.kp lkT hcT bT scMet rfl (Or.inl rfl) (met_gives ME) TB rfl mT hT hr (lamS_by (sc := defScope sRef) (by decide +kernel)) rfl (fun _ _ _ _ _ => rfl) (fun A outer s H E f c' hr' => pe_call (E := E) GWy hr' (by rfl) gWy kWy bWy .nil (passes_call (takes_of rfl rfl rfl rfl) fun _ _ _ _ h => h) (pa_cons (pv 1) (pa_cons pe_int (pa_cons pe_non pa_nil))))) pa_nil)))
      (pss_cons (ps_expr (pe_bm PySem.F.plainAttrs_list PySem.F.slot_list_append PySem.F.type_list_append mt_append (pv 5) (pa_cons (pe_lamcall (k := 6) (T := TT) (t := fun E => tCall (spWay TT K C.S C.M C.I) [] E (tCons (tVar 1) (tCons (tC (.int 1)) (tCons (tVar 3) tNil)))) (TT := TTMet C) (by rfl) gT FT.kp lkT hcT bT scMet rfl (Or.inl rfl) (met_gives ME) TB rfl mT hT hr (lamS_by (sc := defScope sRef) (by decide +kernel)) rfl (fun _ _ _ _ _ => rfl) (fun A outer s H E f c' hr' => pe_call (E := E) GWy hr' (by rfl) gWy kWy bWy .nil (passes_call (takes_of rfl rfl rfl rfl) fun _ _ _ _ h => h) (pa_cons (pv 1) (pa_cons pe_int (pa_cons (pv 3) pa_nil))))) pa_nil)))
      (pss_cons (ps_expr (pe_bm PySem.F.plainAttrs_list PySem.F.slot_list_append PySem.F.type_list_append mt_append (pv 5) (pa_cons (pe_lamcall (k := 6) (T := TT) (t := fun E => tCall (spWay TT K C.S C.M C.I) [] E (tCons (tVar 1) (tCons (tC (.int 2)) (tCons (tCB (fun xs H Q => ∃ p ys, xs = [.ref p] ∧ (SqL K H p ys ∨ SqT K H p ys) ∧ Q (.int ys.length) H) (tCons (tVar 1) tNil)) tNil)))) (TT := TTMet C) (by rfl) gT FT.kp lkT hcT bT scMet rfl (Or.inl rfl) (met_gives ME) TB rfl mT hT hr (lamS_by (sc := defScope sRef) (by decide +kernel)) rfl (fun _ _ _ _ _ => rfl) (fun A outer s H E f c' hr' => pe_call (E := E) GWy hr' (by rfl) gWy kWy bWy .nil (passes_call (takes_of rfl rfl rfl rfl) fun _ _ _ _ h => h) (pa_cons (pv 1) (pa_cons pe_int (pa_cons (pe_callB call_len_seq (by rfl) T.len PySem.boot_len (pa_cons (pv 1) pa_nil)) pa_nil))))) pa_nil)))
      (pss_cons (ps_expr (pe_bm PySem.F.plainAttrs_list PySem.F.slot_list_append PySem.F.type_list_append mt_append (pv 5) (pa_cons (pe_lamcall (k := 6) (T := TT) (t := fun E => tCall (spAddr TT K C.S C.D) [] E (tCons (tVar 4) (tCons (tC .non) tNil))) (TT := TTMet C) (by rfl) gT FT.kp lkT hcT bT scMet rfl (Or.inl rfl) (met_gives ME) TB rfl mT hT hr (lamS_by (sc := defScope sRef) (by decide +kernel)) rfl (fun _ _ _ _ _ => rfl) (fun A outer s H E f c' hr' => pe_call (E := E) GAd hr' (by rfl) gAd kAd bAd .nil (passes_call (takes_of rfl rfl rfl rfl) fun _ _ _ _ h => h) (pa_cons (pv 4) (pa_cons pe_non pa_nil)))) pa_nil)))
      (pss_cons (ps_expr (pe_bm PySem.F.plainAttrs_list PySem.F.slot_list_append PySem.F.type_list_append mt_append (pv 5) (pa_cons (pe_lamcall (k := 6) (T := TT) (t := fun E => tCall (spAddr TT K C.S C.D) [] E (tCons (tVar 1) (tCons (tVar 3) tNil))) (TT := TTMet C) (by rfl) gT FT.kp lkT hcT bT scMet rfl (Or.inl rfl) (met_gives ME) TB rfl mT hT hr (lamS_by (sc := defScope sRef) (by decide +kernel)) rfl (fun _ _ _ _ _ => rfl) (fun A outer s H E f c' hr' => pe_call (E := E) GAd hr' (by rfl) gAd kAd bAd .nil (passes_call (takes_of rfl rfl rfl rfl) fun _ _ _ _ h => h) (pa_cons (pv 1) (pa_cons (pv 3) pa_nil)))) pa_nil)))
      (pss_cons (ps_expr (pe_bm PySem.F.plainAttrs_list PySem.F.slot_list_extend PySem.F.type_list_extend mt_extend (pv 6) (pa_cons (pe_lst (pa_cons (pe_lst (pa_cons pe_str (pa_cons (pv 2) pa_nil))) (pa_cons (pe_lst (pa_cons pe_str (pa_cons (pv 3) pa_nil))) (pa_cons (pe_lst (pa_cons pe_str (pa_cons pe_int pa_nil))) (pa_cons (pe_lst (pa_cons pe_str (pa_cons (pv 3) pa_nil))) (pa_cons (pe_lst (pa_cons pe_str (pa_cons (pe_callB call_len_seq (by rfl) T.len PySem.boot_len (pa_cons (pv 1) pa_nil)) pa_nil))) (pa_cons (pe_lst (pa_cons pe_str (pa_cons (pv 2) pa_nil))) pa_nil))))))) pa_nil)))
      (pss_one (ps_ret (pe_call GS hr5 (by rfl) gS kS bS .nil pass0 (pa_cons (pv 5) (pa_cons (pe_op op_cat (pv 6) (pe_lst (pa_cons (pe_lst (pa_cons pe_str (pa_cons (pv 3) pa_nil))) pa_nil))) pa_nil)))))))))))))))), ?_⟩
    obtain ⟨us, hu, pu⟩ := id row
    have ll := pu.length
    refine ⟨_, rfl, _, rfl, a, us, rfl, .inl (SqL.of hu), _, _, rfl, rfl, p, ((us.length + 1 : Nat) : Int), n, rfl, S, by omega, by omega, small_many (by omega), fun H1 m B1 S1 m0 m1 => ?_⟩
    obtain ⟨m, rfl⟩ : ∃ i : Nat, m = (i : Int) := ⟨m.toNat, (Int.toNat_of_nonneg m0).symm⟩
    have hm : m ≤ us.length := by omega
    have R1 : LS TT p (n + 1) H H1 := (LS.start S tabs).bs B1 S1
    refine ⟨_, rfl, _, rfl, by show 1 ≤ sizeLine; decide, fun a1 n1 => ?_⟩
    have R1 := R1.same (Same.new (u := .lst [.int 2]) n1)
    have p1 : a1 ≠ p := S1.ne n1
    have g1 : (upd H1 a1 (.lst [.int 2])) a1 = some (.lst [.int 2]) := upd_same
    generalize upd H1 a1 (.lst [.int 2]) = J1 at R1 g1
    refine ⟨Nat.zero_le _, fun a2 n2 => ?_⟩
    have e2 : Same J1 (upd J1 a2 (.tup [])) := Same.new n2
    have R2 := R1.same e2
    have p2 : a2 ≠ p := R1.src.ne n2
    have g1 := e2 _ _ g1
    have g2 : (upd J1 a2 (.tup [])) a2 = some (.tup []) := upd_same
    generalize upd J1 a2 (.tup []) = J2 at R2 g1 g2
    refine fun a3 n3 => ?_
    have e3 : Same J2 (upd J2 a3 (.dK [])) := Same.new n3
    have R3 := R2.same e3
    have p3 : a3 ≠ p := R2.src.ne n3
    have g1 := e3 _ _ g1
    have g2 := e3 _ _ g2
    have g3 : (upd J2 a3 (.dK [])) a3 = some (.dK []) := upd_same
    generalize upd J2 a3 (.dK []) = J3 at R3 g1 g2 g3
    refine ⟨by show 8 ≤ sizeLine; decide, fun od nod => ?_⟩
    have odds : ∀ x ∈ [V.int (-1), V.non, V.bl true, V.str "2", V.ref a1, V.ref a2, V.ref a3, V.ref fX], OddV K p J3 x :=
      any_cons ⟨rfl, fun _ => rfl, fun G b => ⟨⟨_, .int _⟩, SameW.int _⟩⟩ (any_cons ⟨rfl, fun _ => rfl, fun G b => ⟨⟨_, .non⟩, SameW.non⟩⟩ (any_cons ⟨rfl, fun _ => rfl, fun G b => ⟨⟨_, .bl _⟩, SameW.bl _⟩⟩ (any_cons ⟨rfl, fun _ => rfl, fun G b => ⟨⟨_, .str (by decide)⟩, SameW.str (by decide)⟩⟩
        (any_cons ⟨rfl, fun _ => rfl, fun G b => ⟨⟨_, .lst (b _ _ p1 (by intro ps z; cases z) g1)⟩, SameW.seq (tp := false) (b _ _ p1 (by intro ps z; cases z) g1) (b _ _ p1 (by intro ps z; cases z) g1) (by simp) (.cons (SameW.int _) .nil)⟩⟩
        (any_cons ⟨rfl, fun _ => rfl, fun G b => ⟨⟨_, .tup (b _ _ p2 (by intro ps z; cases z) g2)⟩, SameW.seq (tp := true) (b _ _ p2 (by intro ps z; cases z) g2) (b _ _ p2 (by intro ps z; cases z) g2) (by simp) .nil⟩⟩
        (any_cons ⟨rfl, fun _ => rfl, fun G b => ⟨⟨_, .dct (b _ _ p3 (by intro ps z; cases z) g3)⟩, SameW.dct (b _ _ p3 (by intro ps z; cases z) g3) (b _ _ p3 (by intro ps z; cases z) g3)⟩⟩
        (any_cons ⟨rfl, fun _ => rfl, fun G b => ⟨⟨_, .fn lX cX⟩, SameW.fn lX cX⟩⟩ any_nil)))))))
    have R4 := R3.same (Same.new (u := .lst [V.int (-1), V.non, V.bl true, V.str "2", V.ref a1, V.ref a2, V.ref a3, V.ref fX]) nod)
    refine ⟨p, od, _, n + 1, rfl, R4.src, by omega, SqL.of upd_same, R3.src.ne nod, Nat.succ_pos _, by show 8 < 1000000; decide, fun H2 j odd B2 S2 hx => ?_⟩
    have oddJ := odds odd (List.mem_of_getElem? hx)
    have b2 : ButN p J3 H2 := (ButN.same (Same.new nod)).trans (ButN.of B2)
    have odd2 := oddJ.bn b2
    have R5 : LS TT p (n + 2) H H2 := R4.bs B2 S2
    clear odds oddJ b2 g1 g2 g3 nod p1 p2 p3 hx B2 S2 R4 R3 R2 R1 n1 n2 n3 e2 e3
    refine ⟨by show 2 ≤ sizeLine; decide, fun tt ntt => ⟨tt, _, rfl, SqT.of upd_same, rfl, .int (m : Nat), _, rfl, odd, _, rfl, rfl, ?_⟩⟩
    have R6 := R5.same (Same.new (u := .tup [.int (m : Nat), odd]) ntt)
    have odd3 := odd2.bn (ButN.same (Same.new (u := .tup [.int (m : Nat), odd]) ntt))
    dsimp only [gName, gCons, gNil]
    generalize upd H2 tt (.tup [.int (m : Nat), odd]) = H3 at R6 odd3 ⊢
    obtain ⟨vs, hv, pv1⟩ := row.bn S np R6.but
    have lv := pv1.length
    refine ⟨_, rfl, _, rfl, (m : Nat), rfl, a, vs, rfl, SqL.of hv, fun l1 m1 => ?_⟩
    rw [cut_to vs m (by omega)]
    have R7 := R6.same (Same.new (u := .lst (vs.take m)) m1)
    have gl1 : (upd H3 l1 (.lst (vs.take m))) l1 = some (.lst (vs.take m)) := upd_same
    have lp : l1 ≠ p := R6.src.ne m1
    have k1 : Same H3 (upd H3 l1 (.lst (vs.take m))) := Same.new m1
    generalize upd H3 l1 (.lst (vs.take m)) = H4 at R7 gl1 k1
    refine ⟨_, rfl, p, n + 2, rfl, R7.src, by omega, fun H5 o B5 S5 ho fresh => ?_⟩
    have onp : o ≠ .ref p := fun z => by
      obtain ⟨d, x, c, hp, _⟩ := R7.src
      rw [fresh p z] at hp
      cases hp
    have R8 : LS TT p (n + 3) H H5 := R7.bs B5 S5
    have gl1 := B5 _ _ lp gl1
    have odd5 := (odd3.bn (ButN.same k1)).bn (ButN.of B5)
    refine ⟨by show 2 ≤ sizeLine; decide, fun l2 m2 => ?_⟩
    refine ⟨l1, l2, _, _, rfl, rfl, Same.new m2 _ _ gl1, upd_same, ?_, fun l3 m3 => ?_⟩
    · rw [List.length_take, sizeLine_eq]
      show _ + 2 ≤ _
      omega
    have k2 : Same H5 (upd (upd H5 l2 (.lst [o, .non])) l3 (.lst (vs.take m ++ [o, .non]))) := (Same.new m2).trans (Same.new m3)
    have gl3 : (upd (upd H5 l2 (.lst [o, .non])) l3 (.lst (vs.take m ++ [o, .non]))) l3 = some (.lst (vs.take m ++ [o, .non])) := upd_same
    generalize upd (upd H5 l2 (.lst [o, .non])) l3 (.lst (vs.take m ++ [o, .non])) = H6 at k2 gl3
    have R9 := R8.same k2
    have hv6 := k2 _ _ (B5 _ _ np (k1 _ _ hv))
    refine ⟨_, rfl, _, rfl, (m : Nat), rfl, a, vs, rfl, SqL.of hv6, fun l4 m4 => ?_⟩
    rw [cut_from vs m (by omega)]
    refine ⟨l3, l4, _, _, rfl, rfl, Same.new m4 _ _ gl3, upd_same, ?_, fun W nW => ?_⟩
    · rw [List.length_append, List.length_take, List.length_drop, sizeLine_eq]
      show _ + 2 + _ ≤ _
      omega
    have Wp : W ≠ p := (R9.same (Same.new (u := .lst (vs.drop m)) m4)).src.ne nW
    have k3 : Same H6 (upd (upd H6 l4 (.lst (vs.drop m))) W (.lst (vs.take m ++ [o, .non] ++ vs.drop m))) := (Same.new m4).trans (Same.new nW)
    have R0 : LS TT p (n + 3) H (upd (upd H6 l4 (.lst (vs.drop m))) W (.lst (vs.take m ++ [o, .non] ++ vs.drop m))) := R9.same k3
    have gW : (upd (upd H6 l4 (.lst (vs.drop m))) W (.lst (vs.take m ++ [o, .non] ++ vs.drop m))) W = some (.lst (vs.take m ++ [o, .non] ++ vs.drop m)) := upd_same
    have odd0 := odd5.bn (ButN.same (k2.trans k3))
    have hv0 := k3 _ _ hv6
    have ho0 : Thing K _ o none := ho.same (k2.trans k3)
    dsimp only [gName]
    generalize upd (upd H6 l4 (.lst (vs.drop m))) W (.lst (vs.take m ++ [o, .non] ++ vs.drop m)) = H0 at R0 gW odd0 ho0 hv0 ⊢
    have row0 : Row H0 a ss := row.bn S np R0.but
    have hvz := hv0
    have hoz := ho0
    clear gl3 gl1 hv hv6 hv0 k1 k2 k3 R9 R8 R7 R6 R5 odd5 odd3 odd2 ho B5 S5 fresh m1 m2 m3 m4 nW pv1
    have L0 : LS TT p (n + 3) H0 H0 := LS.start R0.src R0.tabs
    refine ⟨Nat.zero_le _, fun F nF => ?_⟩
    have eF : Same H0 (upd H0 F (.lst [])) := Same.new nF
    have gF : (upd H0 F (.lst [])) F = some (.lst []) := upd_same
    have Fp : F ≠ p := R0.src.ne nF
    have RF := L0.same eF
    generalize upd H0 F (.lst []) = H1 at eF gF RF
    refine ⟨Nat.zero_le _, fun U nU => ?_⟩
    have FU : F ≠ U := ne_of_none gF nU
    have Up : U ≠ p := RF.src.ne nU
    have eU : Same H1 (upd H1 U (.lst [])) := Same.new nU
    have gU : (upd H1 U (.lst [])) U = some (.lst []) := upd_same
    have nUH : H0 U = none := eF.free nU
    have gF := eU _ _ gF
    have RU := RF.same eU
    have e01 : Same H0 (upd H1 U (.lst [])) := eF.trans eU
    refine ⟨_, _, rfl, ?_⟩
    dsimp only
    generalize upd H1 U (.lst []) = H2 at gU gF RU e01 ⊢
    refine ⟨by show 2 ≤ sizeLine; decide, fun tl ntl => ?_⟩
    have eT : Same H2 (upd H2 tl (.tup [.ref fB, .ref fLa])) := Same.new ntl
    have gtl : (upd H2 tl (.tup [.ref fB, .ref fLa])) tl = some (.tup [.ref fB, .ref fLa]) := upd_same
    have tF : tl ≠ F := (ne_of_none gF ntl).symm
    have tU : tl ≠ U := (ne_of_none gU ntl).symm
    have tlp : tl ≠ p := RU.src.ne ntl
    have gF := eT _ _ gF
    have gU := eT _ _ gU
    have RT := RU.same eT
    have e0T := e01.trans eT
    generalize upd H2 tl (.tup [.ref fB, .ref fLa]) = HT at gtl gF gU RT e0T
    refine ⟨tl, rfl, ⟨_, SqT.of gtl⟩, ?_⟩
    obtain ⟨HB, hb1, hbF, hbU, hbt, RTb⟩ : ∃ HB : Hp, (∀ b o, HB b = some o → HT b = some o) ∧ HB F = none ∧ HB U = none ∧ HB tl = some (.tup [.ref fB, .ref fLa]) ∧ ButN p H0 HB := by
      refine ⟨fun b => if b = F ∨ b = U then none else HT b, fun b o e => ?_, if_pos (.inl rfl), if_pos (.inr rfl), ?_, fun b o nb mo eb => ?_⟩
      · dsimp only at e
        by_cases z : b = F ∨ b = U
        · rw [if_pos z] at e; cases e
        · rw [if_neg z] at e; exact e
      · show (if tl = F ∨ tl = U then none else HT tl) = _
        rw [if_neg (fun z => z.elim tF tU)]
        exact gtl
      · show (if b = F ∨ b = U then none else HT b) = _
        rw [if_neg (fun z => z.elim (ne_of_none eb nF) (ne_of_none eb nUH))]
        exact e0T b o eb
    have LB : LS TT p (n + 3) HB HT := ⟨fun b o _ _ e => hb1 b o e, RT.src, RT.tabs⟩
    have D0 : FD TT p (n + 3) HB F U [] [] [] [] HT := ⟨⟨LB, (fun o _ z => by rw [hbF] at z; cases z), Fp, gF, .nil, (fun r mr => by cases mr)⟩, ⟨LB, (fun o _ z => by rw [hbU] at z; cases z), Up, gU, .nil, (fun r mr => by cases mr)⟩, FU, (fun r mr => by cases mr), (fun r mr => by cases mr)⟩
    have odd0 := odd0.bn RTb
    have oddO : oneV odd = false := one_of_num odd0.1
    have arga : ∀ {n' : Nat} {G : Hp}, LS TT p n' HB G → ArgS K G (.ref a) (.inr ss) := fun L => (row0.bn R0.src np (RTb.trans L.but)).l.arg g (by omega)
    have argW : ∀ {n' : Nat} {G : Hp}, LS TT p n' HB G → ArgS K G (.ref W) (.inl m) := fun {n' G} L => by
      have b := RTb.trans L.but
      obtain ⟨vt, hvt, pvt⟩ := row0.bn R0.src np b
      have ev : vt = vs := by
        rw [b _ _ np (by intro ps z; cases z) hvz] at hvt
        exact (HO.lst.inj (Option.some.inj hvt)).symm
      subst ev
      exact wrong_arg pvt g (by omega) (hoz.bn R0.src L.src b onp) (by omega) (b _ _ Wp (by intro ps z; cases z) gW)
    have bnd : ∀ {n' : Nat} {ws : List (Str × V)} {rs : List V} {F : Addr} {G : Hp}, FS TT p n' HB F rs ws G → ws.length ≤ 30 → rs.length < sizeLine := fun h l => by
      have := h.res.length
      rw [sizeLine_eq]
      omega
    have held : ∀ (f : Addr), f = fB ∨ f = fLa → ∃ sp, HeldX P w K mg base (L2.CX P w) 6 f sp ∧ RefusesO K C.S C.M sp := fun f hf => by
      rcases hf with rfl | rfl
      · exact ⟨_, ⟨_, _, GB, kB, bB⟩, ref_lateB⟩
      · exact ⟨_, ⟨_, _, GLa, kLa, bLa⟩, ref_latest⟩
    clear gF gU RT RU RF eF eU eT e01 e0T LB
    refine for_tup (xs := [.ref fB, .ref fLa]) (fun i σ G => ∃ oa ws, StD TT p (n + 3) HB a m odd W oa ws ws σ G ∧ ws.length = 3 * i ∧ ∀ y ∈ ws, OkW odd y) ⟨_, [], ⟨F, U, [], [], rfl, D0⟩, rfl, (fun y my => by cases my)⟩ (fun i σ G _ z => ?_) (fun i x σ G hx z => ?_) (fun σ G z => ?_)
    · obtain ⟨oa, ws, ⟨F, U, rs, ds, _, h⟩, _⟩ := z
      exact SqT.of (h.f.s.but _ _ tlp (by intro ps z; cases z) hbt)
    · obtain ⟨oa, ws, ⟨F, U, rs, ds, rfl, h⟩, lw, ok⟩ := z
      obtain ⟨f, rfl, hf⟩ : ∃ f, x = .ref f ∧ (f = fB ∨ f = fLa) := by
        have mx := List.mem_of_getElem? hx
        simp only [List.mem_cons, List.not_mem_nil, or_false] at mx
        rcases mx with rfl | rfl
        · exact ⟨_, rfl, .inl rfl⟩
        · exact ⟨_, rfl, .inr rfl⟩
      obtain ⟨sp, hd, rf⟩ := held f hf
      have iL : i < 2 := (List.getElem?_eq_some_iff.mp hx).1
      clear hx hf held D0
      dsimp only [gName]
      refine seq_mid (a := tDrop _) (StD TT p (n + 3) HB a m odd W (some (.ref f)) (ws ++ [wp "stays" (.int (m : Nat))]) ws) (fun Kn hK => ?_) (fun σ G hc => ?_)
      · refine ⟨_, rfl, .inl ⟨rfl, _, SqL.of h.f.at_⟩, h.f.s.tabs, fun H3 e3 t3 => ?_⟩
        have rr := h.f.s.ext e3 t3
        exact ⟨f, sp, rfl, hd, _, rfl, rf.wrong (argW rr) (.int _) (met_bad .s fun G4 T e4 nT gT => ⟨F, rs, .ref T, rfl, rfl, (h.more e3 t3 e4 nT gT).1, bnd h.f (by omega), hK _ _ ⟨F, U, _, _, rfl, (h.more e3 t3 e4 nT gT).2⟩⟩)⟩
      refine seq_mid (a := tDrop _) (StD TT p (n + 3) HB a m odd W (some (.ref f)) ((ws ++ [wp "stays" (.int (m : Nat))]) ++ [wp "many" odd]) ws) (fun Kn hK => ?_) (fun σ G hc => ?_)
      · obtain ⟨F, U, rs, ds, rfl, h⟩ := hc
        refine ⟨_, rfl, .inl ⟨rfl, _, SqL.of h.f.at_⟩, h.f.s.tabs, fun H3 e3 t3 => ?_⟩
        have rr := h.f.s.ext e3 t3
        obtain ⟨⟨ko, ao⟩, _⟩ := odd0.2.2 H3 rr.but
        exact ⟨f, sp, rfl, hd, _, rfl, _, rfl, rf.odd (arga rr) (by omega) ao oddO (met_bad .m fun G4 T e4 nT gT => ⟨F, rs, .ref T, rfl, rfl, (h.more e3 t3 e4 nT gT).1, bnd h.f (by simp only [List.length_append, List.length_cons, List.length_nil]; omega), hK _ _ ⟨F, U, _, _, rfl, (h.more e3 t3 e4 nT gT).2⟩⟩)⟩
      refine seq_mid (a := tDrop _) (StD TT p (n + 3) HB a m odd W (some (.ref f)) (((ws ++ [wp "stays" (.int (m : Nat))]) ++ [wp "many" odd]) ++ [wp "many" (.int 0)]) ws) (fun Kn hK => ?_) (fun σ G hc => ?_)
      · obtain ⟨F, U, rs, ds, rfl, h⟩ := hc
        refine ⟨_, rfl, .inl ⟨rfl, _, SqL.of h.f.at_⟩, h.f.s.tabs, fun H3 e3 t3 => ?_⟩
        have rr := h.f.s.ext e3 t3
        exact ⟨f, sp, rfl, hd, _, rfl, rf.odd (arga rr) (by omega) (.int _) rfl (met_bad .m fun G4 T e4 nT gT => ⟨F, rs, .ref T, rfl, rfl, (h.more e3 t3 e4 nT gT).1, bnd h.f (by simp only [List.length_append, List.length_cons, List.length_nil]; omega), hK _ _ ⟨F, U, _, _, rfl, (h.more e3 t3 e4 nT gT).2⟩⟩)⟩
      obtain ⟨F, U, rs, ds, rfl, h⟩ := hc
      have ew : (((ws ++ [wp "stays" (.int (m : Nat))]) ++ [wp "many" odd]) ++ [wp "many" (.int 0)]) = ws ++ [wp "stays" (.int (m : Nat)), wp "many" (odd), wp "many" (.int 0)] := by simp
      rw [ew] at h
      refine ⟨_, rfl, .inl ⟨rfl, _, SqL.of h.u.at_⟩, ?_⟩
      refine ⟨_, rfl, by show 2 ≤ sizeLine; decide, fun b1 n1 => ?_⟩
      have x1 : V.ref b1 ≠ .ref F ∧ V.ref b1 ≠ .ref U := ⟨fun z => (ne_of_none h.f.at_ n1) (V.ref.inj z).symm, fun z => (ne_of_none h.u.at_ n1) (V.ref.inj z).symm⟩
      have e1 : Same G (upd G b1 (.lst [.str "stays", .int (m : Nat)])) := Same.new n1
      have g1 : LRes (upd G b1 (.lst [.str "stays", .int (m : Nat)])) (.ref b1) ("stays", .int (m : Nat)) := ⟨b1, rfl, upd_same⟩
      have h := h.same e1
      generalize upd G b1 (.lst [.str "stays", .int (m : Nat)]) = Ya1 at h e1 g1
      refine ⟨_, rfl, by show 2 ≤ sizeLine; decide, fun b2 n2 => ?_⟩
      have x2 : V.ref b2 ≠ .ref F ∧ V.ref b2 ≠ .ref U := ⟨fun z => (ne_of_none h.f.at_ n2) (V.ref.inj z).symm, fun z => (ne_of_none h.u.at_ n2) (V.ref.inj z).symm⟩
      have e2 : Same Ya1 (upd Ya1 b2 (.lst [.str "many", odd])) := Same.new n2
      have g2 : LRes (upd Ya1 b2 (.lst [.str "many", odd])) (.ref b2) ("many", odd) := ⟨b2, rfl, upd_same⟩
      have h := h.same e2
      have g1 := g1.ext (ExtN.of e2)
      generalize upd Ya1 b2 (.lst [.str "many", odd]) = Ya2 at h e2 g1 g2
      refine ⟨by show 2 ≤ sizeLine; decide, fun b3 n3 => ?_⟩
      have x3 : V.ref b3 ≠ .ref F ∧ V.ref b3 ≠ .ref U := ⟨fun z => (ne_of_none h.f.at_ n3) (V.ref.inj z).symm, fun z => (ne_of_none h.u.at_ n3) (V.ref.inj z).symm⟩
      have e3 : Same Ya2 (upd Ya2 b3 (.lst [.str "many", .int 0])) := Same.new n3
      have g3 : LRes (upd Ya2 b3 (.lst [.str "many", .int 0])) (.ref b3) ("many", .int 0) := ⟨b3, rfl, upd_same⟩
      have h := h.same e3
      have g1 := g1.ext (ExtN.of e3)
      have g2 := g2.ext (ExtN.of e3)
      generalize upd Ya2 b3 (.lst [.str "many", .int 0]) = Ya3 at h e3 g1 g2 g3
      refine ⟨by show 3 ≤ sizeLine; decide, fun dl ndl => ?_⟩
      have e0 : Same Ya3 (upd Ya3 dl (.lst [V.ref b1, V.ref b2, V.ref b3])) := Same.new ndl
      have gdl : (upd Ya3 dl (.lst [V.ref b1, V.ref b2, V.ref b3])) dl = some (.lst [V.ref b1, V.ref b2, V.ref b3]) := upd_same
      have h := h.same e0
      have g1 := g1.ext (ExtN.of e0)
      have g2 := g2.ext (ExtN.of e0)
      have g3 := g3.ext (ExtN.of e0)
      generalize upd Ya3 dl (.lst [V.ref b1, V.ref b2, V.ref b3]) = Za at h gdl e0 g1 g2 g3
      have due : Paired (LRes Za) [V.ref b1, V.ref b2, V.ref b3] ([wp "stays" (.int (m : Nat)), wp "many" (odd), wp "many" (.int 0)] : List (Str × V)) := .cons g1 (.cons g2 (.cons g3 (.nil)))
      have nes : ∀ r ∈ ([V.ref b1, V.ref b2, V.ref b3] : List V), r ≠ .ref F ∧ r ≠ .ref U := by
        intro r mr
        simp only [List.mem_cons, List.not_mem_nil, or_false] at mr
        rcases mr with rfl | rfl | rfl
        · exact x1
        · exact x2
        · exact x3
      refine ⟨U, dl, _, _, rfl, rfl, h.u.at_, gdl, ?_, _, ws ++ [wp "stays" (.int (m : Nat)), wp "many" (odd), wp "many" (.int 0)], ⟨F, U, rs, _, rfl, h.grow due nes⟩, ?_, fun y my => ?_⟩
      · have := bnd h.u (by omega)
        have l2 := h.u.res.length
        rw [sizeLine_eq]
        show ds.length + 3 ≤ _
        omega
      · rw [List.length_append]
        show _ + 3 = _
        omega
      · rcases List.mem_append.mp my with z | z
        · exact ok y z
        · simp only [List.mem_cons, List.not_mem_nil, or_false] at z
          rcases z with rfl | rfl | rfl
          · exact ⟨(by decide : ("stays" : Str).length ≤ 100), .inr ⟨_, rfl⟩⟩
          · exact ⟨(by decide : ("many" : Str).length ≤ 100), .inl rfl⟩
          · exact ⟨(by decide : ("many" : Str).length ≤ 100), .inr ⟨_, rfl⟩⟩
    obtain ⟨oa, ws, ⟨F, U, rs, ds, rfl, h⟩, lw, ok⟩ := z
    have lw : ws.length = 6 := lw
    dsimp only
    refine seq_mid (a := tDrop _) (StD TT p (n + 3) HB a m odd W oa (ws ++ [wp "stays" (.int (m : Nat))]) ws) (fun Kn hK => ?_) (fun σ G hc => ?_)
    · refine ⟨_, rfl, .inl ⟨rfl, _, SqL.of h.f.at_⟩, h.f.s.tabs, fun H3 e3 t3 => ?_⟩
      have rr := h.f.s.ext e3 t3
      refine ⟨_, rfl, .ref W, .int 0, .non, .int, .non, .inl m, rfl, argW rr, .int _, .non, fun j ej => ?_, fun ss2 e => by cases e⟩
      obtain rfl := Sum.inl.inj ej
      exact met_bad .s fun G4 T e4 nT gT => ⟨F, rs, .ref T, rfl, rfl, (h.more e3 t3 e4 nT gT).1, bnd h.f (by omega), hK _ _ ⟨F, U, _, _, rfl, (h.more e3 t3 e4 nT gT).2⟩⟩
    refine seq_mid (a := tDrop _) (StD TT p (n + 3) HB a m odd W oa ((ws ++ [wp "stays" (.int (m : Nat))]) ++ [wp "many" odd]) ws) (fun Kn hK => ?_) (fun σ G hc => ?_)
    · obtain ⟨F, U, rs, ds, rfl, h⟩ := hc
      refine ⟨_, rfl, .inl ⟨rfl, _, SqL.of h.f.at_⟩, h.f.s.tabs, fun H3 e3 t3 => ?_⟩
      have rr := h.f.s.ext e3 t3
      obtain ⟨⟨ko, ao⟩, _⟩ := odd0.2.2 H3 rr.but
      refine ⟨_, rfl, _, rfl, .ref a, odd, .non, ko, .non, .inr ss, rfl, arga rr, ao, .non, (fun j e => by cases e), fun ss2 es2 => ?_⟩
      obtain rfl := Sum.inr.inj es2
      exact ⟨by omega, fun _ => met_bad .m fun G4 T e4 nT gT => ⟨F, rs, .ref T, rfl, rfl, (h.more e3 t3 e4 nT gT).1, bnd h.f (by simp only [List.length_append, List.length_cons, List.length_nil]; omega), hK _ _ ⟨F, U, _, _, rfl, (h.more e3 t3 e4 nT gT).2⟩⟩, fun n2 en n0 => (one_no oddO en n0).elim⟩
    refine seq_mid (a := tDrop _) (StD TT p (n + 3) HB a m odd W oa (((ws ++ [wp "stays" (.int (m : Nat))]) ++ [wp "many" odd]) ++ [wp "many" (.int 0)]) ws) (fun Kn hK => ?_) (fun σ G hc => ?_)
    · obtain ⟨F, U, rs, ds, rfl, h⟩ := hc
      refine ⟨_, rfl, .inl ⟨rfl, _, SqL.of h.f.at_⟩, h.f.s.tabs, fun H3 e3 t3 => ?_⟩
      have rr := h.f.s.ext e3 t3
      refine ⟨_, rfl, .ref a, .int 0, .non, .int, .non, .inr ss, rfl, arga rr, .int _, .non, (fun j e => by cases e), fun ss2 es2 => ?_⟩
      obtain rfl := Sum.inr.inj es2
      exact ⟨by omega, fun _ => met_bad .m fun G4 T e4 nT gT => ⟨F, rs, .ref T, rfl, rfl, (h.more e3 t3 e4 nT gT).1, bnd h.f (by simp only [List.length_append, List.length_cons, List.length_nil]; omega), hK _ _ ⟨F, U, _, _, rfl, (h.more e3 t3 e4 nT gT).2⟩⟩, fun n2 en n0 => (one_no (m := .int 0) rfl en n0).elim⟩
    refine seq_mid (a := tDrop _) (StD TT p (n + 3) HB a m odd W oa ((((ws ++ [wp "stays" (.int (m : Nat))]) ++ [wp "many" odd]) ++ [wp "many" (.int 0)]) ++ [wp "index" odd]) ws) (fun Kn hK => ?_) (fun σ G hc => ?_)
    · obtain ⟨F, U, rs, ds, rfl, h⟩ := hc
      refine ⟨_, rfl, .inl ⟨rfl, _, SqL.of h.f.at_⟩, h.f.s.tabs, fun H3 e3 t3 => ?_⟩
      have rr := h.f.s.ext e3 t3
      obtain ⟨⟨ko, ao⟩, _⟩ := odd0.2.2 H3 rr.but
      refine ⟨_, rfl, _, rfl, .ref a, .int 1, odd, .int, ko, .inr ss, rfl, arga rr, .int _, ao, (fun j e => by cases e), fun ss2 es2 => ?_⟩
      obtain rfl := Sum.inr.inj es2
      refine ⟨by omega, fun z => (by cases z), fun n2 en n0 => ⟨fun _ => met_bad .i fun G4 T e4 nT gT => ⟨F, rs, .ref T, rfl, rfl, (h.more e3 t3 e4 nT gT).1, bnd h.f (by simp only [List.length_append, List.length_cons, List.length_nil]; omega), hK _ _ ⟨F, U, _, _, rfl, (h.more e3 t3 e4 nT gT).2⟩⟩, fun i ei hi => ?_⟩⟩
      exfalso
      rw [ei] at odd0
      exact odd0.ix hi
    refine seq_mid (a := tDrop _) (StD TT p (n + 3) HB a m odd W oa (((((ws ++ [wp "stays" (.int (m : Nat))]) ++ [wp "many" odd]) ++ [wp "many" (.int 0)]) ++ [wp "index" odd]) ++ [wp "index" (.int (ss.length : Nat))]) ws) (fun Kn hK => ?_) (fun σ G hc => ?_)
    · obtain ⟨F, U, rs, ds, rfl, h⟩ := hc
      refine ⟨_, rfl, .inl ⟨rfl, _, SqL.of h.f.at_⟩, h.f.s.tabs, fun H3 e3 t3 => ?_⟩
      have rr := h.f.s.ext e3 t3
      obtain ⟨vt, hvt, pvt⟩ := row0.bn R0.src np (RTb.trans rr.but)
      have lvt := pvt.length
      refine ⟨_, rfl, _, rfl, a, vt, rfl, .inl (SqL.of hvt), ?_⟩
      rw [lvt]
      refine ⟨.ref a, .int 2, .int (ss.length : Nat), .int, .int, .inr ss, rfl, arga rr, .int _, .int _, (fun j e => by cases e), fun ss2 es2 => ?_⟩
      obtain rfl := Sum.inr.inj es2
      refine ⟨by omega, fun z => (by cases z), fun n2 en n0 => ⟨fun _ => met_bad .i fun G4 T e4 nT gT => ⟨F, rs, .ref T, rfl, rfl, (h.more e3 t3 e4 nT gT).1, bnd h.f (by simp only [List.length_append, List.length_cons, List.length_nil]; omega), hK _ _ ⟨F, U, _, _, rfl, (h.more e3 t3 e4 nT gT).2⟩⟩, fun i ei hi => ?_⟩⟩
      exfalso
      have z1 := V.int.inj ei
      omega
    refine seq_mid (a := tDrop _) (StD TT p (n + 3) HB a m odd W oa ((((((ws ++ [wp "stays" (.int (m : Nat))]) ++ [wp "many" odd]) ++ [wp "many" (.int 0)]) ++ [wp "index" odd]) ++ [wp "index" (.int (ss.length : Nat))]) ++ [wp "stays" (.int (m : Nat))]) ws) (fun Kn hK => ?_) (fun σ G hc => ?_)
    · obtain ⟨F, U, rs, ds, rfl, h⟩ := hc
      refine ⟨_, rfl, .inl ⟨rfl, _, SqL.of h.f.at_⟩, h.f.s.tabs, fun H3 e3 t3 => ?_⟩
      have rr := h.f.s.ext e3 t3
      refine ⟨_, rfl, .ref W, .non, .non, .inl m, rfl, argW rr, .non, fun j ej => ?_, fun ss2 e => by cases e⟩
      obtain rfl := Sum.inl.inj ej
      exact met_bad .s fun G4 T e4 nT gT => ⟨F, rs, .ref T, rfl, rfl, (h.more e3 t3 e4 nT gT).1, bnd h.f (by simp only [List.length_append, List.length_cons, List.length_nil]; omega), hK _ _ ⟨F, U, _, _, rfl, (h.more e3 t3 e4 nT gT).2⟩⟩
    refine seq_mid (a := tDrop _) (StD TT p (n + 3) HB a m odd W oa (((((((ws ++ [wp "stays" (.int (m : Nat))]) ++ [wp "many" odd]) ++ [wp "many" (.int 0)]) ++ [wp "index" odd]) ++ [wp "index" (.int (ss.length : Nat))]) ++ [wp "stays" (.int (m : Nat))]) ++ [wp "day" odd]) ws) (fun Kn hK => ?_) (fun σ G hc => ?_)
    · obtain ⟨F, U, rs, ds, rfl, h⟩ := hc
      refine ⟨_, rfl, .inl ⟨rfl, _, SqL.of h.f.at_⟩, h.f.s.tabs, fun H3 e3 t3 => ?_⟩
      have rr := h.f.s.ext e3 t3
      obtain ⟨⟨ko, ao⟩, _⟩ := odd0.2.2 H3 rr.but
      refine ⟨_, rfl, _, rfl, .ref a, odd, ko, .inr ss, rfl, arga rr, ao, (fun j e => by cases e), fun ss2 es2 => ?_⟩
      obtain rfl := Sum.inr.inj es2
      refine ⟨by omega, fun _ => met_bad .d fun G4 T e4 nT gT => ⟨F, rs, .ref T, rfl, rfl, (h.more e3 t3 e4 nT gT).1, bnd h.f (by simp only [List.length_append, List.length_cons, List.length_nil]; omega), hK _ _ ⟨F, U, _, _, rfl, (h.more e3 t3 e4 nT gT).2⟩⟩, fun n2 en n0 => ?_⟩
      exfalso
      rw [en] at odd0
      exact odd0.num n0
    refine seq_mid (a := tDrop _) (StD TT p (n + 3) HB a m odd W oa (((((((ws ++ [wp "stays" (.int (m : Nat))]) ++ [wp "many" odd]) ++ [wp "many" (.int 0)]) ++ [wp "index" odd]) ++ [wp "index" (.int (ss.length : Nat))]) ++ [wp "stays" (.int (m : Nat))]) ++ [wp "day" odd]) (ws ++ [wp "stays" (.int (m : Nat)), wp "many" (odd), wp "many" (.int 0), wp "index" (odd), wp "index" (.int (ss.length : Nat)), wp "stays" (.int (m : Nat))])) (fun Kn hK => ?_) (fun σ G hc => ?_)
    · obtain ⟨F, U, rs, ds, rfl, h⟩ := hc
      refine ⟨_, rfl, .inl ⟨rfl, _, SqL.of h.u.at_⟩, ?_⟩
      refine ⟨_, rfl, by show 2 ≤ sizeLine; decide, fun b1 n1 => ?_⟩
      have x1 : V.ref b1 ≠ .ref F ∧ V.ref b1 ≠ .ref U := ⟨fun z => (ne_of_none h.f.at_ n1) (V.ref.inj z).symm, fun z => (ne_of_none h.u.at_ n1) (V.ref.inj z).symm⟩
      have e1 : Same G (upd G b1 (.lst [.str "stays", .int (m : Nat)])) := Same.new n1
      have g1 : LRes (upd G b1 (.lst [.str "stays", .int (m : Nat)])) (.ref b1) ("stays", .int (m : Nat)) := ⟨b1, rfl, upd_same⟩
      have h := h.same e1
      generalize upd G b1 (.lst [.str "stays", .int (m : Nat)]) = Yb1 at h e1 g1
      refine ⟨_, rfl, by show 2 ≤ sizeLine; decide, fun b2 n2 => ?_⟩
      have x2 : V.ref b2 ≠ .ref F ∧ V.ref b2 ≠ .ref U := ⟨fun z => (ne_of_none h.f.at_ n2) (V.ref.inj z).symm, fun z => (ne_of_none h.u.at_ n2) (V.ref.inj z).symm⟩
      have e2 : Same Yb1 (upd Yb1 b2 (.lst [.str "many", odd])) := Same.new n2
      have g2 : LRes (upd Yb1 b2 (.lst [.str "many", odd])) (.ref b2) ("many", odd) := ⟨b2, rfl, upd_same⟩
      have h := h.same e2
      have g1 := g1.ext (ExtN.of e2)
      generalize upd Yb1 b2 (.lst [.str "many", odd]) = Yb2 at h e2 g1 g2
      refine ⟨by show 2 ≤ sizeLine; decide, fun b3 n3 => ?_⟩
      have x3 : V.ref b3 ≠ .ref F ∧ V.ref b3 ≠ .ref U := ⟨fun z => (ne_of_none h.f.at_ n3) (V.ref.inj z).symm, fun z => (ne_of_none h.u.at_ n3) (V.ref.inj z).symm⟩
      have e3 : Same Yb2 (upd Yb2 b3 (.lst [.str "many", .int 0])) := Same.new n3
      have g3 : LRes (upd Yb2 b3 (.lst [.str "many", .int 0])) (.ref b3) ("many", .int 0) := ⟨b3, rfl, upd_same⟩
      have h := h.same e3
      have g1 := g1.ext (ExtN.of e3)
      have g2 := g2.ext (ExtN.of e3)
      generalize upd Yb2 b3 (.lst [.str "many", .int 0]) = Yb3 at h e3 g1 g2 g3
      refine ⟨_, rfl, by show 2 ≤ sizeLine; decide, fun b4 n4 => ?_⟩
      have x4 : V.ref b4 ≠ .ref F ∧ V.ref b4 ≠ .ref U := ⟨fun z => (ne_of_none h.f.at_ n4) (V.ref.inj z).symm, fun z => (ne_of_none h.u.at_ n4) (V.ref.inj z).symm⟩
      have e4 : Same Yb3 (upd Yb3 b4 (.lst [.str "index", odd])) := Same.new n4
      have g4 : LRes (upd Yb3 b4 (.lst [.str "index", odd])) (.ref b4) ("index", odd) := ⟨b4, rfl, upd_same⟩
      have h := h.same e4
      have g1 := g1.ext (ExtN.of e4)
      have g2 := g2.ext (ExtN.of e4)
      have g3 := g3.ext (ExtN.of e4)
      generalize upd Yb3 b4 (.lst [.str "index", odd]) = Yb4 at h e4 g1 g2 g3 g4
      obtain ⟨vt, hvt, pvt⟩ := row0.bn R0.src np (RTb.trans h.f.s.but)
      have lvt := pvt.length
      refine ⟨_, rfl, a, vt, rfl, .inl (SqL.of hvt), ?_⟩
      rw [lvt]
      refine ⟨by show 2 ≤ sizeLine; decide, fun b5 n5 => ?_⟩
      have x5 : V.ref b5 ≠ .ref F ∧ V.ref b5 ≠ .ref U := ⟨fun z => (ne_of_none h.f.at_ n5) (V.ref.inj z).symm, fun z => (ne_of_none h.u.at_ n5) (V.ref.inj z).symm⟩
      have e5 : Same Yb4 (upd Yb4 b5 (.lst [.str "index", .int (ss.length : Nat)])) := Same.new n5
      have g5 : LRes (upd Yb4 b5 (.lst [.str "index", .int (ss.length : Nat)])) (.ref b5) ("index", .int (ss.length : Nat)) := ⟨b5, rfl, upd_same⟩
      have h := h.same e5
      have g1 := g1.ext (ExtN.of e5)
      have g2 := g2.ext (ExtN.of e5)
      have g3 := g3.ext (ExtN.of e5)
      have g4 := g4.ext (ExtN.of e5)
      generalize upd Yb4 b5 (.lst [.str "index", .int (ss.length : Nat)]) = Yb5 at h e5 g1 g2 g3 g4 g5
      refine ⟨_, rfl, by show 2 ≤ sizeLine; decide, fun b6 n6 => ?_⟩
      have x6 : V.ref b6 ≠ .ref F ∧ V.ref b6 ≠ .ref U := ⟨fun z => (ne_of_none h.f.at_ n6) (V.ref.inj z).symm, fun z => (ne_of_none h.u.at_ n6) (V.ref.inj z).symm⟩
      have e6 : Same Yb5 (upd Yb5 b6 (.lst [.str "stays", .int (m : Nat)])) := Same.new n6
      have g6 : LRes (upd Yb5 b6 (.lst [.str "stays", .int (m : Nat)])) (.ref b6) ("stays", .int (m : Nat)) := ⟨b6, rfl, upd_same⟩
      have h := h.same e6
      have g1 := g1.ext (ExtN.of e6)
      have g2 := g2.ext (ExtN.of e6)
      have g3 := g3.ext (ExtN.of e6)
      have g4 := g4.ext (ExtN.of e6)
      have g5 := g5.ext (ExtN.of e6)
      generalize upd Yb5 b6 (.lst [.str "stays", .int (m : Nat)]) = Yb6 at h e6 g1 g2 g3 g4 g5 g6
      refine ⟨by show 6 ≤ sizeLine; decide, fun dl ndl => ?_⟩
      have e0 : Same Yb6 (upd Yb6 dl (.lst [V.ref b1, V.ref b2, V.ref b3, V.ref b4, V.ref b5, V.ref b6])) := Same.new ndl
      have gdl : (upd Yb6 dl (.lst [V.ref b1, V.ref b2, V.ref b3, V.ref b4, V.ref b5, V.ref b6])) dl = some (.lst [V.ref b1, V.ref b2, V.ref b3, V.ref b4, V.ref b5, V.ref b6]) := upd_same
      have h := h.same e0
      have g1 := g1.ext (ExtN.of e0)
      have g2 := g2.ext (ExtN.of e0)
      have g3 := g3.ext (ExtN.of e0)
      have g4 := g4.ext (ExtN.of e0)
      have g5 := g5.ext (ExtN.of e0)
      have g6 := g6.ext (ExtN.of e0)
      generalize upd Yb6 dl (.lst [V.ref b1, V.ref b2, V.ref b3, V.ref b4, V.ref b5, V.ref b6]) = Zb at h gdl e0 g1 g2 g3 g4 g5 g6
      have due : Paired (LRes Zb) [V.ref b1, V.ref b2, V.ref b3, V.ref b4, V.ref b5, V.ref b6] ([wp "stays" (.int (m : Nat)), wp "many" (odd), wp "many" (.int 0), wp "index" (odd), wp "index" (.int (ss.length : Nat)), wp "stays" (.int (m : Nat))] : List (Str × V)) := .cons g1 (.cons g2 (.cons g3 (.cons g4 (.cons g5 (.cons g6 (.nil))))))
      have nes : ∀ r ∈ ([V.ref b1, V.ref b2, V.ref b3, V.ref b4, V.ref b5, V.ref b6] : List V), r ≠ .ref F ∧ r ≠ .ref U := by
        intro r mr
        simp only [List.mem_cons, List.not_mem_nil, or_false] at mr
        rcases mr with rfl | rfl | rfl | rfl | rfl | rfl
        · exact x1
        · exact x2
        · exact x3
        · exact x4
        · exact x5
        · exact x6
      refine ⟨U, dl, _, _, rfl, rfl, h.u.at_, gdl, ?_, hK _ _ ⟨F, U, rs, _, rfl, h.grow due nes⟩⟩
      have l2 := h.u.res.length
      rw [sizeLine_eq]
      show ds.length + 6 ≤ _
      omega
    obtain ⟨F, U, rs, ds, rfl, h⟩ := hc
    refine ⟨_, rfl, _, rfl, _, rfl, by show 2 ≤ sizeLine; decide, fun b1 n1 => ?_⟩
    have e1 : Same G (upd G b1 (.lst [.str "day", odd])) := Same.new n1
    have g1 : LRes (upd G b1 (.lst [.str "day", odd])) (.ref b1) (wp "day" odd) := ⟨b1, rfl, upd_same⟩
    have h := h.same e1
    generalize upd G b1 (.lst [.str "day", odd]) = Y1 at h g1 e1
    refine ⟨by show 1 ≤ sizeLine; decide, fun d2 nd2 => ⟨U, d2, _, _, rfl, rfl, Same.new nd2 _ _ h.u.at_, upd_same, ?_, fun L nL => ?_⟩⟩
    · have l2 := h.u.res.length
      rw [List.length_append] at l2
      rw [sizeLine_eq]
      have l3 : ([wp "stays" (.int (m : Nat)), wp "many" (odd), wp "many" (.int 0), wp "index" (odd), wp "index" (.int (ss.length : Nat)), wp "stays" (.int (m : Nat))] : List (Str × V)).length = 6 := rfl
      show ds.length + 1 ≤ _
      omega
    have e9 : Same Y1 (upd (upd Y1 d2 (.lst [V.ref b1])) L (.lst (ds ++ [V.ref b1]))) := (Same.new nd2).trans (Same.new nL)
    have gL : (upd (upd Y1 d2 (.lst [V.ref b1])) L (.lst (ds ++ [V.ref b1]))) L = some (.lst (ds ++ [V.ref b1])) := upd_same
    have h := h.same e9
    have g1 := g1.ext (ExtN.of e9)
    generalize upd (upd Y1 d2 (.lst [V.ref b1])) L (.lst (ds ++ [V.ref b1])) = Y9 at h gL g1 e9
    have due := Paired.app h.u.res (.cons g1 .nil)
    have ew : ws ++ [wp "stays" (.int (m : Nat)), wp "many" (odd), wp "many" (.int 0), wp "index" (odd), wp "index" (.int (ss.length : Nat)), wp "stays" (.int (m : Nat))] ++ [wp "day" odd] = (((((((ws ++ [wp "stays" (.int (m : Nat))]) ++ [wp "many" odd]) ++ [wp "many" (.int 0)]) ++ [wp "index" odd]) ++ [wp "index" (.int (ss.length : Nat))]) ++ [wp "stays" (.int (m : Nat))]) ++ [wp "day" odd]) := by simp
    rw [ew] at due
    have sm := (odd0.2.2 Y9 h.f.s.but).2
    have lr := h.f.res.length
    have hw : ∀ y ∈ (((((((ws ++ [wp "stays" (.int (m : Nat))]) ++ [wp "many" odd]) ++ [wp "many" (.int 0)]) ++ [wp "index" odd]) ++ [wp "index" (.int (ss.length : Nat))]) ++ [wp "stays" (.int (m : Nat))]) ++ [wp "day" odd]), y.1.length ≤ 100 ∧ SameV K 2 Y9 y.2 y.2 := by
      intro y my
      have o : OkW odd y := by
        rw [← ew] at my
        rcases List.mem_append.mp my with z | z
        · rcases List.mem_append.mp z with z | z
          · exact ok y z
          · simp only [List.mem_cons, List.not_mem_nil, or_false] at z
            rcases z with rfl | rfl | rfl | rfl | rfl | rfl
            · exact ⟨(by decide : ("stays" : Str).length ≤ 100), .inr ⟨_, rfl⟩⟩
            · exact ⟨(by decide : ("many" : Str).length ≤ 100), .inl rfl⟩
            · exact ⟨(by decide : ("many" : Str).length ≤ 100), .inr ⟨_, rfl⟩⟩
            · exact ⟨(by decide : ("index" : Str).length ≤ 100), .inl rfl⟩
            · exact ⟨(by decide : ("index" : Str).length ≤ 100), .inr ⟨_, rfl⟩⟩
            · exact ⟨(by decide : ("stays" : Str).length ≤ 100), .inr ⟨_, rfl⟩⟩
        · rw [List.mem_singleton.mp z]
          exact ⟨(by decide : ("day" : Str).length ≤ 100), .inl rfl⟩
      refine ⟨o.1, ?_⟩
      rcases o.2 with e | ⟨i, e⟩
      · rw [e]; exact sm
      · rw [e]; exact SameW.int _
    refine ⟨.ref F, .ref L, rfl, SameW.seq (tp := false) h.f.at_ gL (by rw [lr]; simp only [List.length_append, List.length_cons, List.length_nil]; omega) (pairs_same h.f.res due hw), fun Y e => ?_⟩
    have hY := h.same e
    exact q Y ((R0.but.trans RTb).trans hY.f.s.but) hY.f.s.src hY.f.s.tabs
end
end OB
namespace OB
open PySem PySem.Spec PyProof.Rows L2 LamX
theorem bind_lateB {kV doc pm : Value} {an : Option Addr} {cdv ct : Value} : ∀ ws : List Value, ws.length = 2 → bindArgs (PySem.W.fnOf "late_begins" "late_begins" (defArgs sLateB) (defBody sLateB) (defScope sLateB) .none kV doc pm an cdv ct) ⟨[], (["many", "stays"] : List Str).zip ws⟩ = pure ((["stays", "many"] : List Str).zip ws.reverse)
  | [_, _], _ => rfl
theorem bind_latest {kV doc pm : Value} {an : Option Addr} {cdv ct : Value} : ∀ ws : List Value, ws.length = 2 → bindArgs (PySem.W.fnOf "latest" "latest" (defArgs sLatest) (defBody sLatest) (defScope sLatest) .none kV doc pm an cdv ct) ⟨[], (["many", "stays"] : List Str).zip ws⟩ = pure ((["stays", "many"] : List Str).zip ws.reverse)
  | [_, _], _ => rfl
theorem bind_way {kV doc pm : Value} {an : Option Addr} {cdv ct : Value} : ∀ ws : List Value, ws.length = 3 → bindArgs (PySem.W.fnOf "in_the_way" "in_the_way" (defArgs sWay) (defBody sWay) (defScope sWay) .none kV doc pm an cdv ct) ⟨[], (["index", "many", "stays"] : List Str).zip ws⟩ = pure ((["stays", "many", "index"] : List Str).zip ws.reverse)
  | [_, _, _], _ => rfl
theorem bind_addr {kV doc pm : Value} {an : Option Addr} {cdv ct : Value} : ∀ ws : List Value, ws.length = 2 → bindArgs (PySem.W.fnOf "addresses_for" "addresses_for" (defArgs sAddr) (defBody sAddr) (defScope sAddr) .none kV doc pm an cdv ct) ⟨[], (["late", "stays"] : List Str).zip ws⟩ = pure ((["stays", "late"] : List Str).zip ws.reverse)
  | [_, _], _ => rfl
/-! ### the law itself -/
abbrev sLaw : Stmt := top 40
def Nlw : List Str := ["script", "turn", "stream", "stays", "handed", "before", "worst", "many", "late", "due", "told", "index", "days", "pair", "one", "other"]
theorem scLaw : FnScope Nlw ["script"] (defScope sLaw) := ⟨rfl, rfl, rfl, by decide +kernel, rfl, by decide +kernel, by decide +kernel⟩
/-- the law's own context, at the outermost caller -/
abbrev cxLaw (P : Program) (w : World) (K : PySem.W.Frag) (mg : Str → Option Value) (base : Heap) (fa : Addr) (cdv : Value) (s : Shared) (H : Hp) : Cx := (cxOf CX0 P w K mg base Nlw "law" (defScope sLaw) fa cdv callerA [] s H (fun _ _ _ => False)).nox
theorem SqL.keepN {K : PySem.W.Frag} {p t : Addr} {H H1 H2 : Hp} {xs : List V} (h : SqL K H t xs) (n : H p = none) (e : Same H H1) (b : ButN p H1 H2) : SqL K H2 t xs := by
  rcases h with (h | ⟨o, h⟩) | h
  · exact .inl (.inl (b _ _ (ne_of_none h n) (by intro ps z; cases z) (e _ _ h)))
  · exact .inl (.inr ⟨o, b _ _ (ne_of_none h n) (by intro ps z; cases z) (e _ _ h)⟩)
  · exact .inr h
/-- the state of the law's names -/
abbrev stL (a p D h : Addr) (b : V) (s1 s6 s7 s8 s9 s10 s11 s12 : Option V) : L2.St := [some (.ref a), s1, some (.ref p), some (.ref D), some (.ref h), some b, s6, s7, s8, s9, s10, s11, s12, none, none, none]
theorem ARow.bn {n' : Nat} {p : Addr} {H H' : Hp} {a : Addr} {n : Nat} {ds : Nat → Int} {as : Nat → Nat} (h : ARow H a n ds as) (S : Src n' H p) (np : a ≠ p) (b : ButN p H H') : ARow H' a n ds as := by
  obtain ⟨ts, h1, h2⟩ := h
  exact ⟨ts, b _ _ np (by intro ps z; cases z) h1, fun i hi => b _ _ (src_ne S (h2 i hi) (by intro xs z; cases z)) (by intro ps z; cases z) (h2 i hi)⟩
theorem ints_same {K : PySem.W.Frag} {G : Hp} {d : Nat} {a b : Addr} {is : List Int} (ha : G a = some (.lst (is.map V.int))) (hb : G b = some (.lst (is.map V.int))) (l : is.length < 10000000) : SameV K (d + 2) G (.ref a) (.ref b) := by
  refine SameW.seq (tp := false) ha hb (by rw [List.length_map]; exact l) ?_
  clear ha hb l
  induction is with
  | nil => exact .nil
  | cons n is ih => exact .cons (SameW.int n) ih
theorem nats_same {K : PySem.W.Frag} {G : Hp} {d : Nat} {a b : Addr} {is : List Nat} (ha : G a = some (.lst (is.map natV))) (hb : G b = some (.lst (is.map natV))) (l : is.length < 10000000) : SameV K (d + 2) G (.ref a) (.ref b) := by
  refine SameW.seq (tp := false) ha hb (by rw [List.length_map]; exact l) ?_
  clear ha hb l
  induction is with
  | nil => exact .nil
  | cons n is ih => exact .cons (SameW.int _) ih
theorem one_yes {n : Nat} (h : 0 < n) : ¬ oneV (.int ((n : Nat) : Int)) = false := fun z => by
  have z1 : decide ((1 : Int) ≤ ((n : Nat) : Int)) = false := z
  rw [decide_eq_true (by omega)] at z1
  cases z1
theorem num_yes {x : Int} (h : 0 ≤ x) : ¬ numV (V.int x) = false := fun z => by
  have z1 : decide (0 ≤ x) = false := z
  rw [decide_eq_true h] at z1
  cases z1
theorem back_len {cs : Nat → Option Nat} {f : Nat → Int} {n : Nat} (down : ∀ {l j : Nat}, l < n → cs l = some j → j < n ∧ f j < f l) {i : Nat} {xs : List Nat} (h : OM.Back cs i xs) (hi : i < n) : xs.length + 0 ≤ 1 + OM.cntW n f (f i - 1) := by
  induction h with
  | one _ => simp
  | @more i j xs h r ih =>
    obtain ⟨a, b⟩ := down hi h
    have := ih a
    have := cnt_less (n := n) (f := f) (s := f j - 1) (t := f i - 1) a (by omega) (by omega)
    rw [List.length_cons]
    omega
section
variable {P : Program} {w : World} {K : PySem.W.Frag} {mg : Str → Option Value} {base : Heap}
theorem law_body {fa fSt fD fP fY fA fRR fS fLL fLC fLW fB fLa fWy fAd a : Addr} {fdSt fdD fdP fdY fdA fdRR fdS fdLL fdLC fdLW fdB fdLa fdWy fdAd : FuncData} {C : Cls5} {cdv : Value} {s : Shared} {H : Hp} {TT : List (Addr × Str)} {ns : List Int} (TD : TxtD mg) (rp : mg "repr" = none) (zi : mg "zip" = none) (an : mg "any" = none) (le : mg "len" = none) (hsy : ∃ o, base.get? sysModules = some o)
    (GSt : FnOk P w K mg base CX0 1 fSt fdSt ["script", "k"] (spStream K)) (gSt : mg "_law_stream" = some (.ref fSt)) (kSt : PySem.W.keepIn K (.ref fSt) = true) (bSt : Binds K fdSt ["script", "k"] [])
    (GD : FnOk P w K mg base CX0 1 fD fdD ["stream", "many"] spDraw) (gD : mg "_law_draw" = some (.ref fD)) (kD : PySem.W.keepIn K (.ref fD) = true) (bD : Binds K fdD ["stream", "many"] [])
    (GP : FnOk P w K mg base CX0 2 fP fdP ["stream", "things"] (spPick K)) (gP : mg "_law_pick" = some (.ref fP)) (kP : PySem.W.keepIn K (.ref fP) = true) (bP : Binds K fdP ["stream", "things"] [])
    (GY : FnOk P w K mg base CX0 3 fY fdY ["stream", "most"] spStays) (gY : mg "_law_stays" = some (.ref fY)) (kY : PySem.W.keepIn K (.ref fY) = true) (bY : Binds K fdY ["stream", "most"] [])
    (GA : FnOk P w K mg base CX0 3 fA fdA ["stream", "thing"] spAs2) (gA : mg "_law_as_lists" = some (.ref fA)) (kA : PySem.W.keepIn K (.ref fA) = true) (bA : Binds K fdA ["stream", "thing"] [])
    (GRR : FnOk P w K mg base CX0 9 fRR fdRR ["stream", "stays"] (spRef TT)) (gRR : mg "_law_refused_right" = some (.ref fRR)) (kRR : PySem.W.keepIn K (.ref fRR) = true) (bRR : Binds K fdRR ["stream", "stays"] [])
    (GS : FnOk P w K mg base CX0 4 fS fdS ["found", "due"] (spSame (SameV K 3))) (gS : mg "_law_same" = some (.ref fS)) (kS : PySem.W.keepIn K (.ref fS) = true) (bS : Binds K fdS ["found", "due"] [])
    (GLL : FnOk P w K mg base CX0 4 fLL fdLL ["stays", "many"] (spLLate TT)) (gLL : mg "_law_late" = some (.ref fLL)) (kLL : PySem.W.keepIn K (.ref fLL) = true) (bLL : Binds K fdLL ["stays", "many"] [])
    (GLC : FnOk P w K mg base CX0 1 fLC fdLC ["stays", "late", "index"] spLChain) (gLC : mg "_law_chain" = some (.ref fLC)) (kLC : PySem.W.keepIn K (.ref fLC) = true) (bLC : Binds K fdLC ["stays", "late", "index"] [])
    (GLW : FnOk P w K mg base CX0 1 fLW fdLW ["stays", "late"] spLWorst) (gLW : mg "_law_worst" = some (.ref fLW)) (kLW : PySem.W.keepIn K (.ref fLW) = true) (bLW : Binds K fdLW ["stays", "late"] [])
    (GB : FnOk P w K mg base (L2.CX P w) 6 fB fdB ["stays", "many"] (spLateB TT K C.S C.M)) (gB : mg "late_begins" = some (.ref fB)) (kB : PySem.W.keepIn K (.ref fB) = true) (bB : Binds K fdB ["stays", "many"] [])
    (GLa : FnOk P w K mg base (L2.CX P w) 6 fLa fdLa ["stays", "many"] (spLatest TT K C.S C.M)) (gLa : mg "latest" = some (.ref fLa)) (kLa : PySem.W.keepIn K (.ref fLa) = true)
    (GWy : FnOk P w K mg base (L2.CX P w) 6 fWy fdWy ["stays", "many", "index"] (spWay TT K C.S C.M C.I)) (gWy : mg "in_the_way" = some (.ref fWy)) (kWy : PySem.W.keepIn K (.ref fWy) = true)
    (GAd : FnOk P w K mg base (L2.CX P w) 6 fAd fdAd ["stays", "late"] (spAddr TT K C.S C.D)) (gAd : mg "addresses_for" = some (.ref fAd)) (kAd : PySem.W.keepIn K (.ref fAd) = true)
    (qB : KBn K fdB ["stays", "many"] 0 ["many", "stays"] (fun _ ws => ws.reverse) (fun _ zs => zs.reverse)) (qLa : KBn K fdLa ["stays", "many"] 0 ["many", "stays"] (fun _ ws => ws.reverse) (fun _ zs => zs.reverse))
    (qWy : KBn K fdWy ["stays", "many", "index"] 0 ["index", "many", "stays"] (fun _ ws => ws.reverse) (fun _ zs => zs.reverse)) (qAd : KBn K fdAd ["stays", "late"] 0 ["late", "stays"] (fun _ ws => ws.reverse) (fun _ zs => zs.reverse))
    (hS : SqL K H a (ns.map V.int)) (hn : ns.length ≤ 100) (tabs : Tabs TT H) (hr : Room 9 (cxLaw P w K mg base fa cdv s H).A) :
    ∃ t, PSs (cxLaw P w K mg base fa cdv s H) (defBody sLaw) t ∧ t { nx := fun _ _ => (V.non = .bl true), rt := fun v _ => v = .bl true } (L2.start Nlw [.ref a]) H := by
  have nd := scLaw.nd
  have hgd : (cxLaw P w K mg base fa cdv s H).A.guards = some [] := rfl
  have hun := hr.units
  have hr1 := hr.mono (show 1 ≤ 9 by decide)
  have hr2 := hr.mono (show 2 ≤ 9 by decide)
  have hr3 := hr.mono (show 3 ≤ 9 by decide)
  have hr4 := hr.mono (show 4 ≤ 9 by decide)
  have hr6 := hr.mono (show 6 ≤ 9 by decide)
  refine ⟨_, pss_cons (ps_for PassesOwn.never rfl (pi_range1 (by rfl) TD.rng (pa_cons pe_int pa_nil)) (pg_name (i := 1) nd rfl (Or.inl rfl))
      (pss_cons (ps_set (i := 2) nd rfl (Or.inl rfl) (pe_call GSt hr1 (by rfl) gSt kSt bSt .nil pass0 (pa_cons (pv 0) (pa_cons (pv 1) pa_nil))))
      (pss_cons (ps_set (i := 3) nd rfl (Or.inl rfl) (pe_call GY hr3 (by rfl) gY kY bY .nil pass0 (pa_cons (pv 2) (pa_cons (pe_call GP hr2 (by rfl) gP kP bP .nil pass0 (pa_cons (pv 2) (pa_cons (pe_lst (pa_cons pe_int (pa_cons pe_int (pa_cons pe_int pa_nil)))) pa_nil))) pa_nil))))
      (pss_cons (ps_set (i := 4) nd rfl (Or.inl rfl) (pe_call GA hr3 (by rfl) gA kA bA .nil pass0 (pa_cons (pv 2) (pa_cons (pv 3) pa_nil))))
      (pss_cons (ps_par (i := 5) (j := 6) (by rfl) nd rfl rfl (by decide) rfl rfl (pa_cons (pe_callB (call_show hgd hun hsy) (by rfl) rp (by decide +kernel) (pa_cons (pv 4) pa_nil)) (pa_cons pe_non pa_nil)) (by rfl))
      (pss_cons (ps_for PassesOwn.never rfl (pi_range2 (by rfl) TD.rng (pa_cons pe_int (pa_cons pe_int pa_nil))) (pg_name (i := 7) nd rfl (Or.inl rfl))
        (pss_cons (ps_set (i := 8) nd rfl (Or.inl rfl) (pe_call GLL hr4 (by rfl) gLL kLL bLL .nil pass0 (pa_cons (pv 3) (pa_cons (pv 7) pa_nil))))
        (pss_cons (ps_setLc (i := 9) (own := [("pair", 13)]) (g := gName 13) (tt := tYes) rfl nd rfl rfl (sw_true rfl rfl rfl (by decide +kernel)) (pi_list (pv 8)) (blkOk_by (N := Nlw) (sc := defScope sLaw) (by decide +kernel)) (fun _ _ _ _ _ => pg_name (i := 13) nd rfl (Or.inl rfl)) (fun _ _ _ _ _ => pts_nil) (fun _ _ _ _ _ => pe_ix (ix_tupK (K := K) rfl) (pv 13) pe_int (fun _ _ => rfl)))
        (pss_cons (ps_expr (pe_bm PySem.F.plainAttrs_list PySem.F.slot_list_append PySem.F.type_list_append mt_append (pe_call (E := noE) GB hr6 (by rfl) gB kB bB .nil pass_no (pa_cons (pv 4) (pa_cons (pv 7) pa_nil))) (pa_cons pe_str pa_nil)))
        (pss_cons (ps_set (i := 10) nd rfl (Or.inl rfl) (pe_lst (pa_cons (pe_callKO (ks := ["many", "stays"]) (E := noE) GB hr6 (by rfl) gB kB qB pass_no (pk_cons (pv 7) (pk_cons (pv 4) pk_nil))) (pa_cons (pe_callKO (ks := ["many", "stays"]) (E := noE) GLa hr6 (by rfl) gLa kLa qLa pass_no (pk_cons (pv 7) (pk_cons (pv 4) pk_nil))) pa_nil))))
        (pss_cons (ps_if (pt_not (pt_val (pe_call GS hr4 (by rfl) gS kS bS .nil pass0 (pa_cons (pv 10) (pa_cons (pe_lst (pa_cons (pv 9) (pa_cons (pe_call GLW hr1 (by rfl) gLW kLW bLW .nil pass0 (pa_cons (pv 3) (pa_cons (pv 8) pa_nil))) pa_nil))) pa_nil))))) (pss_one (ps_ret pe_bl)) pss_nil)
        (pss_cons (ps_if (PW.pt (pw_and (pt_cmpR op_notN (pv 6) pe_non (nomark _)) (pw_and1 (pt_val (pe_callB (cr_any rfl) (by rfl) an (by decide +kernel) (pa_cons (pe_lc (own := [("one", 14), ("other", 15)]) (g := gTup K 2 (gCons (gName 14) (gCons (gName 15) gNil))) (tt := tYes) rfl nd (pi_zip (by rfl) zi (pa_cons (pv 9) (pa_cons (pv 6) pa_nil)))
            (blkOk_by (N := Nlw) (sc := defScope sLaw) (by decide +kernel)) (fun _ _ _ _ _ => pg_tup rfl (pgs_cons (pg_name (i := 14) nd rfl (Or.inl rfl)) (pgs_cons (pg_name (i := 15) nd rfl (Or.inl rfl)) pgs_nil))) (fun _ _ _ _ _ => pts_nil) (fun _ _ _ _ _ => pe_cmpR op_gt (pv 14) (pv 15) (nomark _))) pa_nil)))))) (pss_one (ps_ret pe_bl)) pss_nil)
        (pss_cons (ps_set (i := 6) nd rfl (Or.inl rfl) (pv 9))
        (pss_one (ps_for PassesOwn.never rfl (pi_range1 (by rfl) TD.rng (pa_cons (pe_callB call_len_seq (by rfl) le PySem.boot_len (pa_cons (pv 3) pa_nil)) pa_nil)) (pg_name (i := 11) nd rfl (Or.inl rfl))
          (pss_cons (ps_set (i := 10) nd rfl (Or.inl rfl) (pe_callKO (ks := ["index", "many", "stays"]) (E := noE) GWy hr6 (by rfl) gWy kWy qWy pass_no (pk_cons (pv 11) (pk_cons (pv 7) (pk_cons (pv 4) pk_nil)))))
          (pss_one (ps_if (pt_not (pt_val (pe_call GS hr4 (by rfl) gS kS bS .nil pass0 (pa_cons (pv 10) (pa_cons (pe_call GLC hr1 (by rfl) gLC kLC bLC .nil pass0 (pa_cons (pv 3) (pa_cons (pv 8) (pa_cons (pv 11) pa_nil)))) pa_nil))))) (pss_one (ps_ret pe_bl)) pss_nil)))))))))))
      ))
      (pss_cons (ps_for PassesOwn.never rfl (pi_list (pe_lst (pa_cons pe_int (pa_cons pe_int (pa_cons (pe_call GD hr1 (by rfl) gD kD bD .nil pass0 (pa_cons (pv 2) (pa_cons pe_int pa_nil))) (pa_cons (pe_call GLW hr1 (by rfl) gLW kLW bLW .nil pass0 (pa_cons (pv 3) (pa_cons (pe_call GLL hr4 (by rfl) gLL kLL bLL .nil pass0 (pa_cons (pv 3) (pa_cons pe_int pa_nil))) pa_nil))) pa_nil)))))) (pg_name (i := 12) nd rfl (Or.inl rfl))
        (pss_cons (ps_set (i := 7) nd rfl (Or.inl rfl) pe_int)
        (pss_cons (ps_while PassesOwn.never (pt_cmpR op_gt (pe_call GLW hr1 (by rfl) gLW kLW bLW .nil pass0 (pa_cons (pv 3) (pa_cons (pe_call GLL hr4 (by rfl) gLL kLL bLL .nil pass0 (pa_cons (pv 3) (pa_cons (pv 7) pa_nil))) pa_nil))) (pv 12) (nomark _))
          (pss_one (ps_set (i := 7) nd rfl (Or.inl rfl) (pe_op op_add (pv 7) pe_int))))
        (pss_one (ps_if (pt_not (pt_val (pe_call GS hr4 (by rfl) gS kS bS .nil pass0 (pa_cons (pe_callKO (ks := ["late", "stays"]) (E := noE) GAd hr6 (by rfl) gAd kAd qAd pass_no (pk_cons (pv 12) (pk_cons (pv 4) pk_nil))) (pa_cons (pv 7) pa_nil))))) (pss_one (ps_ret pe_bl)) pss_nil)))))
      (pss_one (ps_if (PW.pt (pw_or (pt_cmpR op_ne (pe_callB (call_show hgd hun hsy) (by rfl) rp (by decide +kernel) (pa_cons (pv 4) pa_nil)) (pv 5) (nomark _)) (pw_or1 (pt_not (pt_val (pe_call GRR hr (by rfl) gRR kRR bRR .nil pass0 (pa_cons (pv 2) (pa_cons (pv 3) pa_nil)))))))) (pss_one (ps_ret pe_bl)) pss_nil)))))))))
    (pss_one (ps_ret pe_bl)), ?_⟩
  refine ⟨3, rfl, by decide, by decide, ?_⟩
  refine for_range (n := 3) (fun _ σ G => (∃ s1 s2 s3 s4 s5 s6 s7 s8 s9 s10 s11 s12 : Option V, σ = [some (.ref a), s1, s2, s3, s4, s5, s6, s7, s8, s9, s10, s11, s12, none, none, none]) ∧ SqL K G a (ns.map V.int) ∧ Tabs TT G) ⟨⟨_, _, _, _, _, _, _, _, _, _, _, _, rfl⟩, hS, tabs⟩ ?_ ?_
  · rintro i σ G hi ⟨⟨s1, s2, s3, s4, s5, s6, s7, s8, s9, s10, s11, s12, rfl⟩, hS, tabs⟩
    refine ⟨_, rfl, _, rfl, a, i, ns, by rw [Int.zero_add] <;> rfl, hS, hn, by omega, fun G1 p np e1 S1 => ?_⟩
    have R1 : LS TT p 0 G1 G1 := LS.start S1 (Tabs.same tabs e1)
    refine ⟨_, rfl, _, rfl, by show 3 ≤ sizeLine; decide, fun l1 n1 => ?_⟩
    refine pick_int (E := E0) (is := [4, 9, 16]) S1 (by decide) n1 (by decide) (by decide) fun G2 most B2 S2 hm => ?_
    have R2 : LS TT p 1 G1 G2 := R1.bs B2 S2
    have hm2 : 0 ≤ most ∧ most ≤ 16 := by
      simp at hm
      omega
    refine ⟨p, most, 1, rfl, S2, by omega, hm2.1, by omega, fun G3 D ss B3 S3 nD Dp row3 g sms lss => ?_⟩
    have hl : ss.length ≤ 16 := by omega
    have R3 : LS TT p 1001 G1 G3 := R2.bs B3 S3
    obtain ⟨vs, hv, pv1⟩ := id row3
    have lv := pv1.length
    refine ⟨_, rfl, _, rfl, p, D, false, vs, ss, 1001, rfl, S3, by omega, hv, Dp, pv1, by omega, fun G0 h tr us B4 S4 nh hp hh pu => ?_⟩
    have R0 : LS TT p 2000 G1 G0 := (R3.bs B4 S4).mono (by omega)
    have lrow0 : LRowP p G0 h ss := ⟨hp, tr, us, hh, pu⟩
    obtain ⟨tp, bs, show0, ebs⟩ := lrow0.show_
    have lbs : bs.length = ss.length := by rw [← ebs, List.length_map]
    have small : ∀ y ∈ bs, SmallB y := fun y my => by
      have m1 : y.2 ∈ ss := by rw [← ebs]; exact List.mem_map.mpr ⟨y, my, rfl⟩
      obtain ⟨g1, g2, g3⟩ := g y.2 m1
      obtain ⟨b1, b2, b3⟩ := sms y.2 m1
      unfold SmallB SmallI
      refine ⟨?_, ?_, ?_⟩ <;> omega
    have row0 : Row G0 D ss := row3.but S3 Dp B4
    refine ⟨_, rfl, p, h, tp, bs, rfl, show0, small, by omega, ?_⟩
    refine ⟨_, _, rfl, ?_⟩
    dsimp only
    have arg : ∀ {n : Nat} {G : Hp}, LS TT p n G0 G → ArgS K G (.ref h) (.inr ss) := fun R => (lrow0.bn R.but).l.arg g (by omega)
    have rowG : ∀ {n : Nat} {G : Hp}, LS TT p n G0 G → Row G D ss := fun R => row0.bn R0.src Dp R.but
    have Rz : LS TT p 2000 G0 G0 := LS.start R0.src R0.tabs
    have down : ∀ {m : Nat}, 0 < m → ∀ {l j : Nat}, l < ss.length → (OM.refW ss m).cs l = some j → j < ss.length ∧ (OM.refW ss m).ds j < (OM.refW ss m).ds l := fun {m} m0 {l j} hl2 e => by
      have lt : (OM.sOf ss l).1 < (OM.refW ss m).ds l := by
        refine Classical.byContradiction fun z => ?_
        rw [(OM.no_cause g m0 hl2).mpr z] at e
        cases e
      obtain ⟨j2, e2, a1, a2, _⟩ := OM.ahead_one g m0 hl2 lt
      rw [e] at e2
      obtain rfl := Option.some.inj e2
      exact ⟨a1, a2⟩
    have rl : ∀ f : Nat → Int, (OM.row ss.length f).length < 10000000 := fun f => by rw [OM.row_len]; omega
    refine seq_mid (a := tFor _ _ _) (fun σ G => (∃ s6 s7 s8 s9 s10 s11 : Option V, σ = stL a p D h (.str (rowD tp bs).shown) (some (.int (0 + (i : Nat)))) s6 s7 s8 s9 s10 s11 s12) ∧ LS TT p 2000 G0 G) (fun Kn hK => ?_) (fun σ G hc => ?_)
    · refine ⟨1, 6, rfl, ⟨by decide, by decide, by decide, by decide⟩, ?_⟩
      refine for_range (lo := 1) (n := 5) (fun j σ G => ∃ sw : V, (∃ s7 s8 s9 s10 s11 : Option V, σ = stL a p D h (.str (rowD tp bs).shown) (some (.int (0 + (i : Nat)))) (some sw) s7 s8 s9 s10 s11 s12) ∧ LS TT p 2000 G0 G ∧ (j = 0 → sw = .non) ∧ (0 < j → ∃ W : Addr, sw = .ref W ∧ G W = some (.lst ((OM.row ss.length (OM.refW ss j).ds).map V.int))))
        ⟨_, ⟨_, _, _, _, _, rfl⟩, Rz, fun _ => rfl, fun z => by omega⟩ ?_ ?_
      · rintro j σ G hj ⟨sw, ⟨s7, s8, s9, s10, s11, rfl⟩, RJ, w0, w1⟩
        dsimp only [gName]
        rw [show (1 + ((j : Nat) : Int)) = (((j + 1 : Nat) : Nat) : Int) by omega]
        generalize hm : j + 1 = m
        have m0 : 0 < m := by omega
        refine ⟨_, rfl, _, rfl, D, ss, m, rfl, rowG RJ, g, by omega, m0, by omega, RJ.tabs, fun H2 L e2 t2 nL arow => ?_⟩
        have R2 := RJ.ext e2 t2
        have w2 : 0 < j → ∃ W : Addr, sw = .ref W ∧ H2 W = some (.lst ((OM.row ss.length (OM.refW ss j).ds).map V.int)) := fun z => by
          obtain ⟨W, e, h⟩ := w1 z
          exact ⟨W, e, e2 _ _ h (by intro ps z; cases z)⟩
        have arow0 := arow
        obtain ⟨ts, gL, hts⟩ := arow
        have lc : ((OM.row ss.length ts).map V.ref).length = ss.length := by rw [List.length_map, OM.row_len]
        have ml : ((OM.row ss.length (OM.refW ss m).ds).map V.int).length = ss.length := by rw [List.length_map, OM.row_len]
        refine ⟨_, rfl, L, rfl, ⟨_, SqL.of gL⟩, fun U nU => ?_⟩
        refine lc_it (walk_list (xs := (OM.row ss.length ts).map V.ref)) (AccP U H2 (mapTo ((OM.row ss.length (OM.refW ss m).ds).map V.int))) (acc_start rfl) (fun i G _ z => Same.seq (acc_same z (Same.refl H2) nU) (SqL.of gL)) (fun k x J J' hk z y => ?_) (fun H3 z => ?_)
        · obtain ⟨rfl, hx⟩ := y
          rw [lc] at hk
          rw [List.getElem?_map, OM.row_at hk] at hx
          obtain rfl := Option.some.inj hx
          refine ⟨rfl, ?_⟩
          dsimp only [tYes]
          rw [if_pos rfl]
          exact ⟨_, rfl, ts k, _, ((0 : Nat) : Int), .int ((OM.refW ss m).ds k), rfl, rfl, SqT.of (acc_same z (Same.refl H2) nU _ _ (hts k hk)), atI_nat rfl, acc_in z (Same.refl _) (mapTo_len (by rw [ml, sizeLine_eq]; omega)) (mapTo_succ (by rw [List.getElem?_map, OM.row_at hk] <;> rfl))⟩
        have gU : H3 U = some (.lst ((OM.row ss.length (OM.refW ss m).ds).map V.int)) := by rw [z.2, lc, mapTo_full ml]
        have e3 : Same H2 H3 := acc_same z (Same.refl H2) nU
        clear z
        have R3 := R2.same e3
        refine ⟨_, rfl, _, rfl, .ref h, .int (m : Nat), .int, .inr ss, rfl, arg R3, .int _, (fun j e => by cases e), fun ss2 es2 => ?_⟩
        obtain rfl := Sum.inr.inj es2
        refine ⟨by omega, fun z => absurd z (one_yes m0), fun n en _ => ⟨R3.tabs, fun H4 A e4 t4 fA gA => ?_⟩⟩
        obtain rfl : m = n := by
          have := V.int.inj en
          omega
        refine ⟨.inl ⟨rfl, _, SqL.of gA⟩, A, _, .str "late", rfl, rfl, gA, by rw [ml, sizeLine_eq]; omega, ?_⟩
        have e35 : ExtN H3 (upd H4 A (.lst ((OM.row ss.length (OM.refW ss m).ds).map V.int ++ [.str "late"]))) := fun b o eb no => by
          rw [upd_ne (fun z => fA o no (by rw [← z]; exact eb))]
          exact e4 b o eb no
        have t5 : Tabs TT (upd H4 A (.lst ((OM.row ss.length (OM.refW ss m).ds).map V.int ++ [.str "late"]))) := Tabs.putL t4 gA
        generalize upd H4 A (.lst ((OM.row ss.length (OM.refW ss m).ds).map V.int ++ [.str "late"])) = H5 at e35 t5
        have R5 := R3.ext e35 t5
        refine ⟨_, rfl, _, rfl, rfl, rfl, .ref h, .int (m : Nat), .int, .inr ss, rfl, arg R5, .int _, (fun j e => by cases e), fun ss2 es2 => ?_⟩
        obtain rfl := Sum.inr.inj es2
        refine ⟨by omega, fun z => absurd z (one_yes m0), fun n en _ => ⟨R5.tabs, fun H6 B e6 t6 fB2 gB2 => ?_⟩⟩
        obtain rfl : m = n := by
          have := V.int.inj en
          omega
        have R6 := R5.ext e6 t6
        refine ⟨_, rfl, _, rfl, rfl, rfl, .ref h, .int (m : Nat), .int, .inr ss, rfl, arg R6, .int _, (fun j e => by cases e), fun ss2 es2 => ?_⟩
        obtain rfl := Sum.inr.inj es2
        refine ⟨by omega, fun z => absurd z (one_yes m0), fun n en _ => ⟨R6.tabs, fun H7 e7 t7 => ?_⟩⟩
        obtain rfl : m = n := by
          have := V.int.inj en
          omega
        have R7 := R6.ext e7 t7
        have gB7 := e7 _ _ gB2 (by intro ps z; cases z)
        refine ⟨by show 2 ≤ sizeLine; decide, fun T nT => ?_⟩
        have eT : Same H7 (upd H7 T (.lst [.ref B, .int (OM.worstW ss m)])) := Same.new nT
        have gT : (upd H7 T (.lst [.ref B, .int (OM.worstW ss m)])) T = some (.lst [.ref B, .int (OM.worstW ss m)]) := upd_same
        have gB8 := eT _ _ gB7
        have R8 := R7.same eT
        have x38 : ExtN H3 (upd H7 T (.lst [.ref B, .int (OM.worstW ss m)])) := ExtN.same ((e35.trans e6).trans e7) eT
        generalize upd H7 T (.lst [.ref B, .int (OM.worstW ss m)]) = H8 at gT gB8 R8 x38
        have gU8 := x38 _ _ gU (by intro ps z; cases z)
        have x28 : ExtN H2 H8 := (ExtN.of e3).trans x38
        have arow8 : ARow H8 L ss.length (OM.refW ss m).ds (OM.refW ss m).as := arow0.ext x28
        have w8 : 0 < j → ∃ W : Addr, sw = .ref W ∧ H8 W = some (.lst ((OM.row ss.length (OM.refW ss j).ds).map V.int)) := fun z => by
          obtain ⟨W, e, h⟩ := w2 z
          exact ⟨W, e, x28 _ _ h (by intro ps z; cases z)⟩
        clear w1 w2 arow0 gL hts gA fA gB2 gB7 fB2 gU x38 x28 e2 e3 e4 e6 e7 e35 t2 t4 t5 t6 t7 R2 R3 R5 R6 R7
        refine ⟨_, rfl, _, rfl, _, rfl, _, rfl, D, L, ss, m, rfl, rowG R8, arow8, by omega, fun H9 e9 => ⟨by show 2 ≤ sizeLine; decide, fun l2 k2 => ?_⟩⟩
        have e10 : Same H8 (upd H9 l2 (.lst [.ref U, .int (OM.worstW ss m)])) := e9.trans (Same.new k2)
        have gl2 : (upd H9 l2 (.lst [.ref U, .int (OM.worstW ss m)])) l2 = some (.lst [.ref U, .int (OM.worstW ss m)]) := upd_same
        generalize upd H9 l2 (.lst [.ref U, .int (OM.worstW ss m)]) = H10 at e10 gl2
        refine ⟨.ref T, .ref l2, rfl, SameW.seq (tp := false) (e10 _ _ gT) gl2 (by simp) (.cons (ints_same (e10 _ _ gB8) (e10 _ _ gU8) (rl _)) (.cons (SameW.int _) .nil)), fun H11 e11 => ⟨true, rfl, iteF ?_⟩⟩
        have e8 := e10.trans e11
        have R11 := R8.same e8
        have gU11 := e8 _ _ gU8
        have arow11 := arow8.ext (ExtN.of e8)
        have w11 : 0 < j → ∃ W : Addr, sw = .ref W ∧ H11 W = some (.lst ((OM.row ss.length (OM.refW ss j).ds).map V.int)) := fun z => by
          obtain ⟨W, e, h⟩ := w8 z
          exact ⟨W, e, e8 _ _ h⟩
        clear w8 gU8 gB8 gT arow8 R8 gl2 e9 e10 e11
        dsimp only [tNext]
        refine seq_mid (a := tIfS _ _ _) (fun σ J => σ = stL a p D h (.str (rowD tp bs).shown) (some (.int (0 + (i : Nat)))) (some sw) (some (.int (m : Nat))) (some (.ref L)) (some (.ref U)) (some (.ref T)) s11 s12 ∧ Same H11 J) (fun Kn2 hK2 => ?_) (fun σ J hc => ?_)
        · by_cases jz : j = 0
          · obtain rfl := w0 jz
            exact ⟨_, rfl, rfl, _, rfl, iteF (iteF (hK2 _ _ ⟨rfl, Same.refl _⟩))⟩
          · obtain ⟨W, rfl, gW⟩ := w11 (by omega)
            refine ⟨_, rfl, rfl, _, rfl, iteT ?_⟩
            have mw : ((OM.row ss.length (OM.refW ss j).ds).map V.int).length = ss.length := by rw [List.length_map, OM.row_len]
            refine ⟨_, rfl, _, rfl, U, W, _, _, rfl, SqL.of gU11, SqL.of gW, fun A nA => ?_⟩
            refine lc_it (walk_zip (xs := (OM.row ss.length (OM.refW ss m).ds).map V.int) (ys := (OM.row ss.length (OM.refW ss j).ds).map V.int) (n := ss.length) (by rw [ml, mw]; omega)) (AccP A H11 (fun k => (OM.row k fun _ => false).map V.bl)) (acc_start rfl) (fun i G _ z => ⟨Same.seq (acc_same z (Same.refl H11) nA) (SqL.of gU11), Same.seq (acc_same z (Same.refl H11) nA) (SqL.of gW)⟩) (fun k x Z Z' hk z y => ?_) (fun Z z => ?_)
            · obtain ⟨T', x1, x2, rfl, hT, rfl, hx1, hx2⟩ := y
              have hx1 : ((OM.row ss.length (OM.refW ss m).ds).map V.int)[k]? = some x1 := hx1
              have hx2 : ((OM.row ss.length (OM.refW ss j).ds).map V.int)[k]? = some x2 := hx2
              rw [List.getElem?_map, OM.row_at hk] at hx1 hx2
              obtain rfl := Option.some.inj hx1
              obtain rfl := Option.some.inj hx2
              have le := OM.ref_more g (show 0 < j by omega) k
              rw [hm] at le
              generalize (OM.refW ss m).ds k = d1 at le ⊢
              generalize (OM.refW ss j).ds k = d2 at le ⊢
              refine ⟨T', _, rfl, SqT.of upd_same, rfl, .int d1, _, rfl, .int d2, _, rfl, rfl, rfl, ?_⟩
              dsimp only [tYes]
              rw [if_pos rfl]
              refine ⟨_, rfl, _, rfl, d1, d2, rfl, rfl, acc_in z (Same.new hT) (by rw [List.length_map, OM.row_len, sizeLine_eq]; omega) ?_⟩
              rw [row_succ, List.map_append]
              show _ ++ [V.bl false] = _ ++ [V.bl (decide (d2 < d1))]
              rw [decide_eq_false (show ¬ d2 < d1 by omega)]
            · have gA : Z A = some (.lst ((OM.row ss.length fun _ => false).map V.bl)) := z.2
              have nob : (OM.row ss.length fun _ => false).any id = false := by
                rw [List.any_eq_false]
                intro x mx
                obtain ⟨k, _, rfl⟩ := OM.row_mem.mp mx
                simp
              refine ⟨A, _, rfl, SqL.of gA, _, rfl, ?_⟩
              rw [nob]
              exact iteF (hK2 _ _ ⟨rfl, acc_same z (Same.refl H11) nA⟩)
        obtain ⟨rfl, eJ⟩ := hc
        have RJ := R11.same eJ
        have gUJ := eJ _ _ gU11
        have arowJ := arow11.ext (ExtN.of eJ)
        clear R11 gU11 arow11 w11 w0 eJ
        obtain ⟨us2, hu2, pu2⟩ := rowG RJ
        have lu2 := pu2.length
        refine ⟨_, rfl, ?_⟩
        refine ⟨_, rfl, D, us2, rfl, .inl (SqL.of hu2), _, rfl, by omega, by omega, ?_⟩
        refine for_range (n := (((us2.length : Nat) : Int)).toNat) (fun k σ Z => (∃ s10 s11 : Option V, σ = stL a p D h (.str (rowD tp bs).shown) (some (.int (0 + (i : Nat)))) (some (.ref U)) (some (.int (m : Nat))) (some (.ref L)) (some (.ref U)) s10 s11 s12) ∧ ExtN J Z ∧ Tabs TT Z) ⟨⟨_, _, rfl⟩, (fun b o e no => e), RJ.tabs⟩ ?_ ?_
        · rintro k σ Z hk ⟨⟨s10, s11, rfl⟩, eZ, tZ⟩
          have hk : k < ss.length := by omega
          have RZ := RJ.ext eZ tZ
          dsimp only [gName]
          rw [show (0 : Int) + ((k : Nat) : Int) = ((k : Nat) : Int) from Int.zero_add _]
          refine ⟨_, rfl, _, rfl, _, rfl, rfl, rfl, .ref h, .int (m : Nat), .int (k : Nat), .int, .int, .inr ss, rfl, arg RZ, .int _, .int _, (fun j e => by cases e), fun ss2 es2 => ?_⟩
          obtain rfl := Sum.inr.inj es2
          refine ⟨by omega, fun z => absurd z (one_yes m0), fun n en _ => ⟨fun z => ?_, fun i2 ei _ => ⟨RZ.tabs, fun Z2 D2 xs e2 t2 fD bk gD2 => ?_⟩⟩⟩
          · exfalso
            have z1 : (decide ((0 : Int) ≤ ((k : Nat) : Int)) && decide (((k : Nat) : Int) < (ss.length : Int))) = false := z
            rw [decide_eq_true (by omega), decide_eq_true (by omega)] at z1
            cases z1
          obtain rfl : m = n := by
            have := V.int.inj en
            omega
          obtain rfl : k = i2 := by
            have := V.int.inj ei
            omega
          have R2 := RZ.ext e2 t2
          refine ⟨_, rfl, _, rfl, _, rfl, _, rfl, D, L, ss, m, k, rfl, rowG R2, g, arowJ.ext (eZ.trans e2), by omega, m0, hk, fun Z3 D3 ys e3 n3 bk2 gD3 => ?_⟩
          obtain rfl := OM.Back.det bk bk2
          have lx := back_len (fun {l j} => down m0 (l := l) (j := j)) bk hk
          have cl := cnt_le ss.length (OM.refW ss m).ds ((OM.refW ss m).ds k - 1)
          refine ⟨.ref D2, .ref D3, rfl, nats_same (e3 _ _ gD2) gD3 (by rw [List.length_reverse]; omega), fun Z4 e4 => ⟨true, rfl, iteF ⟨⟨_, _, rfl⟩, ?_, ?_⟩⟩⟩
          · exact ExtN.same (eZ.trans e2) (e3.trans e4)
          · exact Tabs.same t2 (e3.trans e4)
        · rintro σ Z ⟨⟨s10, s11, rfl⟩, eZ, tZ⟩
          exact ⟨_, ⟨_, _, _, _, _, rfl⟩, RJ.ext eZ tZ, fun z => by omega, fun _ => ⟨U, rfl, eZ _ _ gUJ (by intro ps z; cases z)⟩⟩
      · rintro σ G ⟨sw, ⟨s7, s8, s9, s10, s11, rfl⟩, RJ, _⟩
        exact hK _ _ ⟨⟨_, _, _, _, _, _, rfl⟩, RJ⟩
    obtain ⟨⟨s6, s7, s8, s9, s10, s11, rfl⟩, RG⟩ := hc
    refine ⟨_, rfl, p, 12, 2000, rfl, RG.src, by decide, by decide, small_many (n := 12) (by decide), fun H4 d B4 S4 d0 d1 => ?_⟩
    have R4 : LS TT p 2001 G0 H4 := RG.bs B4 S4
    refine ⟨_, rfl, _, rfl, D, ss, 1, rfl, rowG R4, g, by omega, by decide, by decide, R4.tabs, fun H5 L e5 t5 nL arow => ?_⟩
    have R5 := R4.ext e5 t5
    refine ⟨D, L, ss, 1, rfl, rowG R5, arow, by omega, fun H6 e6 => ⟨by show 4 ≤ sizeLine; decide, fun M nM => ?_⟩⟩
    have R6 := R5.same e6
    have wn := OM.worst_nn ss 1
    generalize hdl : ([0, 1, d, OM.worstW ss 1] : List Int) = dl
    have dln : ∀ x ∈ dl, 0 ≤ x := fun x mx => by
      rw [← hdl] at mx
      simp only [List.mem_cons, List.not_mem_nil, or_false] at mx
      rcases mx with rfl | rfl | rfl | rfl <;> omega
    have ldl : dl.length = 4 := by rw [← hdl] <;> rfl
    have Mp : M ≠ p := R6.src.ne nM
    have gM : (upd H6 M (.lst [.int 0, .int 1, .int d, .int (OM.worstW ss 1)])) M = some (.lst (dl.map V.int)) := by rw [← hdl]; exact upd_same
    have RM := R6.same (Same.new (u := .lst [.int 0, .int 1, .int d, .int (OM.worstW ss 1)]) nM)
    generalize upd H6 M (.lst [.int 0, .int 1, .int d, .int (OM.worstW ss 1)]) = GM at RM gM
    refine ⟨M, rfl, ⟨_, SqL.of gM⟩, ?_⟩
    have up : ∀ {n : Nat} {J : Hp}, LS TT p n GM J → LS TT p n G0 J := fun R => ⟨RM.but.trans R.but, R.src, R.tabs⟩
    have RM0 : LS TT p 2001 GM GM := LS.start RM.src RM.tabs
    refine for_it (walk_list (xs := dl.map V.int)) (fun _ σ J => (∃ s7 s12 : Option V, σ = stL a p D h (.str (rowD tp bs).shown) (some (.int (0 + (i : Nat)))) s6 s7 s8 s9 s10 s11 s12) ∧ LS TT p 2001 GM J) ⟨⟨_, _, rfl⟩, RM0⟩
      (fun _ σ J _ z => SqL.of (z.2.but _ _ Mp (by intro ps z; cases z) gM)) (fun j x σ J J' hj z y => ?_) (fun σ J z => ?_)
    · obtain ⟨rfl, hx⟩ := y
      obtain ⟨⟨s7, s12, rfl⟩, RJ⟩ := z
      rw [List.getElem?_map] at hx
      obtain ⟨x0, hx0, rfl⟩ := Option.map_eq_some_iff.mp hx
      have x0n := dln x0 (List.mem_of_getElem? hx0)
      refine while_go (fun mm σ Z => LS TT p 2001 GM Z ∧ ∃ k : Nat, σ = stL a p D h (.str (rowD tp bs).shown) (some (.int (0 + (i : Nat)))) s6 (some (.int (k : Nat))) s8 s9 s10 s11 (some (.int x0)) ∧ 1 ≤ k ∧ k ≤ max 1 ss.length ∧ (∀ j, 1 ≤ j → j < k → x0 < OM.worstW ss j) ∧ mm = 200 - k)
        ⟨_, RJ, 1, rfl, Nat.le_refl _, by omega, (fun j h1 h2 => by omega), rfl⟩ (fun mm σ Z z => ?_) (fun σ Z Q Q' hq h => ?_)
      · obtain ⟨RZ, k, rfl, k1, k2, all, rfl⟩ := z
        refine ⟨_, rfl, _, rfl, _, rfl, D, ss, k, rfl, rowG (up RZ), g, by omega, k1, by omega, RZ.tabs, fun H2 L e2 t2 nL arow => ?_⟩
        have R2 := RZ.ext e2 t2
        refine ⟨D, L, ss, k, rfl, rowG (up R2), arow, by omega, fun H3 e3 => ⟨_, rfl, _, x0, rfl, rfl, _, rfl, ?_⟩⟩
        have R3 := R2.same e3
        refine ite2 (fun c => ?_) (fun c => ?_)
        · have lt := of_decide_eq_true c
          have kn : k < ss.length := by
            refine Classical.byContradiction fun z => ?_
            rw [OM.worst_time g (by omega)] at lt
            omega
          refine ⟨_, rfl, _, _, rfl, rfl, 200 - (k + 1), by omega, R3, k + 1, rfl, by omega, by omega, fun j h1 h2 => ?_, rfl⟩
          by_cases z : j = k
          · rw [z]; exact lt
          · exact all j h1 (by omega)
        · have le : ¬ x0 < OM.worstW ss k := fun y => c (decide_eq_true y)
          refine ⟨_, rfl, _, rfl, rfl, rfl, .ref h, .int x0, .int, .inr ss, rfl, arg (up R3), .int _, (fun j e => by cases e), fun ss2 es2 => ?_⟩
          obtain rfl := Sum.inr.inj es2
          refine ⟨by omega, fun z => absurd z (num_yes x0n), fun n en _ => ⟨R3.tabs, fun H4 k2 e4 t4 lm => ?_⟩⟩
          obtain rfl := V.int.inj en
          obtain rfl := lm.one ⟨k1, by omega, all⟩
          exact ⟨_, rfl, _, _, rfl, SameW.int _, fun H5 e5 => ⟨true, rfl, iteF ⟨⟨_, _, rfl⟩, (R3.ext e4 t4).same e5⟩⟩⟩
      · obtain ⟨x2, h2, x3, h3, x4, h4, a1, ss1, m1, b1, b2, b3, b4, b5, b6, b7, qq⟩ := h
        refine ⟨x2, h2, x3, h3, x4, h4, a1, ss1, m1, b1, b2, b3, b4, b5, b6, b7, fun Z' F e' t' n' ar => ?_⟩
        obtain ⟨c1, c2, c3, c4, c5, c6, c7, c8, q2⟩ := qq Z' F e' t' n' ar
        refine ⟨c1, c2, c3, c4, c5, c6, c7, c8, fun Z2 e2 => ?_⟩
        obtain ⟨y, hy, i, j, d1, d2, kk, d3, q3⟩ := q2 Z2 e2
        exact ⟨y, hy, i, j, d1, d2, kk, d3, hq _ _ q3⟩
    · obtain ⟨⟨s7, s12, rfl⟩, RJ⟩ := z
      have RJ := up RJ
      refine ⟨_, rfl, p, h, tp, bs, rfl, show0.bn RJ.but, small, by omega, _, rfl, rfl, _, rfl, ?_⟩
      rw [decide_eq_true rfl]
      refine iteF ⟨_, rfl, _, rfl, p, D, ss, _, rfl, RJ.src, by omega, rowG RJ, Dp, g, by omega, RJ.tabs, fun H' b' S' t' => ⟨true, rfl, iteF ?_⟩⟩
      exact ⟨⟨_, _, _, _, _, _, _, _, _, _, _, _, rfl⟩, OB.SqL.keepN hS np e1 ((R0.but.trans RJ.but).trans b'), t'⟩
  · rintro σ G _
    rfl
end
end OB
namespace OB
open PySem PySem.Spec PyProof.Rows L2 LamX
/-! ### what is looked at behind the top -/
def gEs (g : Addr → Option Obj) (N : Addr) : List DictEntry := match g N with
  | some ⟨_, _, .dict es _, _⟩ => es.toList
  | _ => []
def inEs (es : List DictEntry) (x : Str) : Option Value := (es.find? fun e => e.key.isStr x).map (·.val)
def refIn (es : List DictEntry) (x : Str) : Addr := match inEs es x with
  | some (.ref a) => a
  | _ => 0
def adr (g : Addr → Option Obj) (x : Str) : Addr := refIn (gEs g mainGlobals) x
def clNs (g : Addr → Option Obj) (C : Addr) : Addr := match g C with
  | some ⟨_, _, .cls cd, _⟩ => cd.ns
  | _ => 0
def fnCd (g : Addr → Option Obj) (f : Addr) : List Addr := match g f with
  | some ⟨_, _, .func fd, _⟩ => (match fd.code with
    | .ref c => [c]
    | _ => []) ++ fd.closure.map (·.2)
  | _ => []
def fnAs (g : Addr → Option Obj) (f : Addr) : List Addr := f :: fnCd g f
def clsAs (g : Addr → Option Obj) (r : Str × List Str) : List Addr := adr g r.1 :: clNs g (adr g r.1) :: r.2.flatMap fun m => fnAs g (refIn (gEs g (clNs g (adr g r.1))) m)
def fns0 : List (Str × Nat) := [("is_integer", 1), ("is_number", 2), ("is_from_one", 3), ("is_list", 4), ("first_wrong", 5), ("is_stay", 14), ("told_stays", 15), ("check_index", 16), ("by_begins", 17), ("check_from_one", 19), ("begins_and_causes", 20), ("latest_of", 21), ("late_begins", 22), ("latest", 23), ("in_the_way", 24), ("addresses_for", 25)]
def fns1 : List (Str × Nat) := [("_law_stream", 27), ("_law_draw", 28), ("_law_pick", 29), ("_law_same", 30), ("_law_as_lists", 31), ("_law_stays", 32), ("_law_odd_stay", 33), ("_law_order", 34), ("_law_late", 35), ("_law_chain", 36), ("_law_worst", 37), ("_law_met", 38), ("_law_refused_right", 39), ("law", 40)]
def fns : List (Str × Nat) := fns0 ++ fns1
def clss : List (Str × List Str) := [("AddressError", []), ("BadStays", ["__init__"]), ("BadMany", ["__init__"]), ("BadIndex", ["__init__"]), ("BadDay", ["__init__"])]
def asK (g : Addr → Option Obj) : List Addr := mainGlobals :: cStatics :: sysModules :: (fns.flatMap (fun p => fnAs g (adr g p.1)) ++ clss.flatMap (clsAs g))
def KO (g : Addr → Option Obj) : PySem.W.Frag := He.frT g (asK g)
/-! ### defs -/
def dFn (p : Str × Nat) : He.FnD := ⟨(p.1, none), p.1, p.1, defArgs (top p.2), defBody (top p.2), defScope (top p.2)⟩
def dMe (c m q : Str) (st : Stmt) : He.FnD := ⟨(c, some m), m, q, defArgs st, defBody st, defScope st⟩
def mes : List He.FnD := []
def fnD : List He.FnD := fns.map dFn ++ mes
/-! ### facts -/
def frees : List Str := ["isinstance", "int", "bool", "str", "list", "tuple", "len", "all", "abs", "sum", "range", "zip", "set", "dict", "any", "enumerate", "repr", "super", "max", "min", "sorted"]
def fa0 : List He.Fa := fns.map (fun p => He.Fa.glo p.1) ++ frees.map He.Fa.free
def fa1 : List He.Fa := [.glo "BadStays", .glo "BadMany", .glo "BadIndex", .glo "BadDay", .glo "AddressError", .noat "BadStays" "index", .noat "BadMany" "many", .noat "BadIndex" "index", .noat "BadDay" "day", .exm "BadStays" "BadStays" true, .exm "BadMany" "BadStays" false, .exm "BadMany" "BadMany" true, .exm "BadIndex" "BadStays" false, .exm "BadIndex" "BadMany" false, .exm "BadIndex" "BadIndex" true, .exm "BadDay" "BadStays" false, .exm "BadDay" "BadMany" false, .exm "BadDay" "BadIndex" false, .exm "BadDay" "BadDay" true]
def fa2 : List He.Fa := fns.map fun p => He.Fa.keep p.1
def faA : List He.Fa := fa0 ++ (fa1 ++ fa2)
def errT : List Value := [.type "ValueError", .type "Exception", .type "BaseException", .type "object"]
def newIs (sl : List (Option Value)) : Bool := match sl with
  | [_, _, _, _, some (.builtin n), _] => n == "ValueError.__new__"
  | _ => false
def errShape (K : PySem.W.Frag) (C cE : Addr) : Bool := match K.lookup C with
  | some ⟨.type "type", _, .cls cd, sl⟩ => decide (cd.mro = .ref C :: .ref cE :: errT) && (cd.hasDict && (!cd.hasDel && newIs sl.toList))
  | _ => false
def fileIs (K : PySem.W.Frag) (file : Str) (cda : Addr) : Bool := match K.lookup cda with
  | some ⟨_, _, .fields vs, _⟩ => (match (vs[2]? : Option Value) with
    | some (.str z _) => file == z
    | _ => false)
  | _ => false
def cellIs (K : PySem.W.Frag) (C : Addr) (cl : List (Str × Addr)) : Bool := match cl with
  | [(_, cc)] => (match K.lookup cc with
    | some ⟨_, _, .cell (some (.ref C')), _⟩ => C' == C
    | _ => false)
  | _ => false
def initShape (K : PySem.W.Frag) (file : Str) (C f : Addr) : Bool := match K.lookup f with
  | some ⟨_, _, .func fd, _⟩ => (match fd.code with
      | .ref cda => PySem.W.codeIn K (.ref cda) fd.qualname && fileIs K file cda
      | _ => false) && cellIs K C fd.closure
  | _ => false
abbrev InV : Type := Option (Str × Arguments × FuncBody × Scope × Addr × List Str × Value × Value × Addr)
def initO (K : PySem.W.Frag) (f : Addr) : InV := match K.lookup f with
  | some ⟨_, _, .func fd, _⟩ => some (fd.name, fd.params, fd.body, fd.scope, fd.globals, fd.closure.map (·.1), fd.defaults, fd.kwdefaults, fd.builtins)
  | _ => none
def initV (st : Stmt) : InV := some ("__init__", defArgs st, .stmts (defBody st), defScope st, mainGlobals, ["__class__"], .none, .none, builtinsNs)
def errB (K : PySem.W.Frag) (file x : Str) : Bool := errShape K (He.ga K x) (He.ga K "AddressError") && (PySem.W.keepIn K (.ref (He.ga K x)) && (He.eqO (PySem.W.findIn K (.ref (He.ga K x)) "__setattr__") (some (some (.builtin "object.__setattr__"))) &&
  (He.eqO (PySem.W.findIn K (.ref (He.ga K x)) "__init__") (some (some (.ref (He.ma K (He.ga K x) "__init__")))) && (decide (PySem.W.typeIn K (.ref (He.ma K (He.ga K x) "__init__")) = some (.type "function")) && (He.eqO (PySem.W.ks_superIn K (He.ga K x) (He.ga K x) "__init__") (some (some (.builtin "ValueError.__init__"))) &&
  (PySem.W.excInitIn K (He.ga K x) errT "ValueError.__new__" && (xfB K (He.ga K x) && (initShape K file (He.ga K x) (He.ma K (He.ga K x) "__init__") && (decide (PySem.W.mroIn K (He.ga K x) (.ref (He.ga K x)) = some true) && (decide (PySem.W.subIn K (.ref (He.ga K x)) (.type "ValueError") = some true) &&
  (decide (PySem.W.subIn K (.ref (He.ga K x)) (.type "BaseException") = some true) && decide (PySem.W.typeIn K (.ref (He.ga K x)) = some (.type "type")))))))))))))
def hasB (K : PySem.W.Frag) (a : Addr) : Bool := match K.lookup a with
  | some _ => true
  | none => false
def clsIs (K : PySem.W.Frag) (a : Addr) : Bool := match K.lookup a with
  | some ⟨.type c, _, _, _⟩ => decide (c = "function")
  | _ => false
def tfs : List He.Defn := [("by_begins", none), ("_law_order", none), ("_law_refused_right", none)]
def file : Str := "/claim/cut.py"
def exB (K : PySem.W.Frag) : Bool := (errB K file "BadStays" && (errB K file "BadMany" && (errB K file "BadIndex" && (errB K file "BadDay" && (He.eqO (PySem.W.nsIn K cStatics "thirdparty.any") (some none) && (hasB K sysModules && (clsIs K (He.ga K "_law_met") && (clsIs K (He.ga K "_law_late") && (!((He.cT K ("by_begins", none)).2 == (He.cT K ("_law_order", none)).2) && (!((He.cT K ("by_begins", none)).2 == (He.cT K ("_law_refused_right", none)).2) && !((He.cT K ("_law_order", none)).2 == (He.cT K ("_law_refused_right", none)).2)))))))))))
def inits : List (Str × Stmt) := [("BadStays", inClass (top 11) 0), ("BadMany", inClass (top 12) 0), ("BadIndex", inClass (top 8) 0), ("BadDay", inClass (top 10) 0)]
/-! ### the looks -/
abbrev LA : Type := List He.FnV
abbrev LB : Type := Bool
abbrev LC : Type := List InV
def lkA (g : Addr → Option Obj) : LA := fnD.map fun d => He.fnObs (KO g) d.at_
def lkB (g : Addr → Option Obj) : LB := (faA.all fun f => f.ok (KO g)) && fnD.all fun d => (He.Fa.code d.at_ d.qual).ok (KO g)
def lkC (g : Addr → Option Obj) : LC := inits.map fun p => initO (KO g) (He.ma (KO g) (He.ga (KO g) p.1) "__init__")
def lkD (g : Addr → Option Obj) : LB := exB (KO g) && He.tabsB g tfs (KO g)
def vA : LA := fnD.map He.FnD.val
def vC : LC := inits.map fun p => initV p.2
end OB
namespace OB
open PySem PySem.Spec PyProof.Rows L2 LamX
/-! ### what the looks say -/
structure SaysK (w : World) (h : Heap) (K : PySem.W.Frag) : Prop where
  A : (fnD.map fun d => He.fnObs K d.at_) = vA
  B : ((faA.all fun f => f.ok K) && fnD.all fun d => (He.Fa.code d.at_ d.qual).ok K) = true
  C : (inits.map fun p => initO K (He.ma K (He.ga K p.1) "__init__")) = vC
  D : exB K = true
  hd : ∀ p ∈ tfs, PySem.W.codeHdIn K (He.cT K p).1 (He.cT K p).2 = true
  out : ∀ p ∈ tfs, K.lookup (He.cT K p).2 = none
  empty : ∀ p ∈ tfs, h.get? (He.cT K p).2 = some { cls := .none, data := .fields #[] }
theorem SaysK.keeps {w : World} {h h' : Heap} {K : PySem.W.Frag} (s : SaysK w h K) (k : ∀ b o, h.get? b = some o → h'.get? b = some o) : SaysK w h' K := ⟨s.A, s.B, s.C, s.D, s.hd, s.out, fun p m => k _ _ (s.empty p m)⟩
abbrev LookT : Type := LA × (LB × (LC × LB))
def lk (g : Addr → Option Obj) : LookT := (lkA g, (lkB g, (lkC g, lkD g)))
def vl (w : World) : LookT := (vA, (true, (vC, true)))
theorem says_of {w : World} {h : Heap} (e : lk h.get? = vl w) : ∃ K : PySem.W.Frag, K.In h ∧ SaysK w h K := by
  refine ⟨KO h.get?, He.frT_in, ?_⟩
  have eA : lkA h.get? = vA := congrArg (fun z : LookT => z.1) e
  have eB : lkB h.get? = true := congrArg (fun z : LookT => z.2.1) e
  have eC : lkC h.get? = vC := congrArg (fun z : LookT => z.2.2.1) e
  have eD : lkD h.get? = true := congrArg (fun z : LookT => z.2.2.2) e
  obtain ⟨d1, d2⟩ := Bool.and_eq_true_iff.mp (show (exB (KO h.get?) && He.tabsB h.get? tfs (KO h.get?)) = true from eD)
  have key : ∀ p ∈ tfs, PySem.W.codeHdIn (KO h.get?) (He.cT (KO h.get?) p).1 (He.cT (KO h.get?) p).2 = true ∧ ∃ o, h.get? (He.cT (KO h.get?) p).2 = some o ∧ He.emptyTab o = true := fun p hp => by
    obtain ⟨h3, h4⟩ := Bool.and_eq_true_iff.mp (List.all_eq_true.mp (show (tfs.all fun p => PySem.W.codeHdIn (KO h.get?) (He.cT (KO h.get?) p).1 (He.cT (KO h.get?) p).2 && (match h.get? (He.cT (KO h.get?) p).2 with
      | some o => He.emptyTab o
      | none => false)) = true from d2) p hp)
    refine ⟨h3, ?_⟩
    cases q : h.get? (He.cT (KO h.get?) p).2 with
    | none =>
      rw [q] at h4
      cases h4
    | some o =>
      rw [q] at h4
      exact ⟨o, rfl, h4⟩
  refine ⟨eA, eB, eC, d1, fun p m => (key p m).1, fun p m => ?_, fun p m => ?_⟩
  · obtain ⟨_, o, q, z⟩ := key p m
    exact He.frT_none q z
  · obtain ⟨_, o, q, z⟩ := key p m
    rw [q, He.emptyTab_eq z]
section
variable {w : World} {h : Heap} {K : PySem.W.Frag} {mg : Str → Option Value} {base : Heap}
theorem SaysK.fact (s : SaysK w h K) {f : He.Fa} (m : f ∈ faA) : f.ok K = true := List.all_eq_true.mp (Bool.and_eq_true_iff.mp s.B).1 f m
theorem SaysK.def_ (s : SaysK w h K) {d : He.FnD} (m : d ∈ fnD) : ∃ oc od osl kV doc pm an cdv ct, K.lookup (He.fAd K d.at_) = some ⟨oc, od, .func (PySem.W.fnOf d.name d.qual d.params d.body d.scope .none kV doc pm an cdv ct), osl⟩ ∧ PySem.W.codeIn K cdv d.qual = true := by
  obtain ⟨i, hi, e⟩ := List.mem_iff_getElem.mp m
  have e2 : (fnD.map fun d => He.fnObs K d.at_)[i]? = (fnD.map He.FnD.val)[i]? := by rw [s.A] <;> rfl
  rw [List.getElem?_map, List.getElem?_map, List.getElem?_eq_getElem hi, e] at e2
  exact He.fn_ok (Option.some.inj e2) (List.all_eq_true.mp (Bool.and_eq_true_iff.mp s.B).2 d m)
theorem mem_fa0 {p : Str × Nat} (m : p ∈ fns) : He.Fa.glo p.1 ∈ faA := List.mem_append_left _ (List.mem_append_left _ (List.mem_map.mpr ⟨p, m, rfl⟩))
theorem mem_free {x : Str} (m : x ∈ frees) : He.Fa.free x ∈ faA := List.mem_append_left _ (List.mem_append_right _ (List.mem_map.mpr ⟨x, m, rfl⟩))
theorem mem_fa1 {f : He.Fa} (m : f ∈ fa1) : f ∈ faA := List.mem_append_right _ (List.mem_append_left _ m)
theorem mem_fa2 {p : Str × Nat} (m : p ∈ fns) : He.Fa.keep p.1 ∈ faA := List.mem_append_right _ (List.mem_append_right _ (List.mem_map.mpr ⟨p, m, rfl⟩))
/-- a def of the top -/
theorem SaysK.fn (s : SaysK w h K) (X : K.In base) (G : base.Ns mainGlobals mg) {x : Str} {i : Nat} (m : (x, i) ∈ fns) : mg x = some (.ref (He.ga K x)) ∧ ∃ fd, Fun K x x (top i) (He.ga K x) fd := by
  refine ⟨He.glo_ok X G (s.fact (mem_fa0 m)), ?_⟩
  obtain ⟨oc, od, osl, kV, doc, pm, an, cdv, ct, lk, hc⟩ := s.def_ (d := dFn (x, i)) (List.mem_append_left _ (List.mem_map.mpr ⟨_, m, rfl⟩))
  exact ⟨_, ⟨oc, od, kV, doc, pm, an, cdv, ct, osl, rfl, lk, hc⟩, s.fact (mem_fa2 m)⟩
theorem SaysK.free (s : SaysK w h K) (X : K.In base) (G : base.Ns mainGlobals mg) {x : Str} (m : x ∈ frees) : mg x = none := He.free_ok X G (s.fact (mem_free m))
end
end OB
namespace OB
open PySem PySem.Spec PyProof.Rows L2 LamX
/-! ### the two errors -/
theorem shape_ok {K : PySem.W.Frag} {C cE : Addr} (c : errShape K C cE = true) : ∃ nm q N bs sn sub ab col dd k0 k1 k2 k3 k5, K.lookup C = some (excClassObj nm q C N bs (.ref cE :: errT) true sn sub ab col dd k0 k1 k2 k3 k5 "ValueError.__new__") := by
  unfold errShape at c
  split at c
  · rename_i dd cd sl e
    simp only [Bool.and_eq_true, Bool.not_eq_true', decide_eq_true_eq] at c
    obtain ⟨c1, c2, c3, c4⟩ := c
    obtain ⟨nm, bs, mro, ns, qn, hd, sn, sb, ab, col, del⟩ := cd
    dsimp only at c1 c2 c3
    subst c1 c2 c3
    unfold newIs at c4
    split at c4
    · rename_i k0 k1 k2 k3 n k5 hs
      have en : n = "ValueError.__new__" := beq_iff_eq.mp c4
      subst en
      have hsl : sl = #[k0, k1, k2, k3, some (.builtin "ValueError.__new__"), k5] := by
        obtain ⟨l⟩ := sl
        simp only at hs
        rw [hs]
      subst hsl
      exact ⟨nm, qn, ns, bs, sn, sb, ab, col, dd, k0, k1, k2, k3, k5, e⟩
    · cases c4
  · cases c
structure ErrC (K : PySem.W.Frag) (x : Str) : Prop where
  shape : errShape K (He.ga K x) (He.ga K "AddressError") = true
  keep : PySem.W.keepIn K (.ref (He.ga K x)) = true
  sa : PySem.W.findIn K (.ref (He.ga K x)) "__setattr__" = some (some (.builtin "object.__setattr__"))
  iC : PySem.W.findIn K (.ref (He.ga K x)) "__init__" = some (some (.ref (He.ma K (He.ga K x) "__init__")))
  tC : PySem.W.typeIn K (.ref (He.ma K (He.ga K x) "__init__")) = some (.type "function")
  sup : PySem.W.ks_superIn K (He.ga K x) (He.ga K x) "__init__" = some (some (.builtin "ValueError.__init__"))
  exI : PySem.W.excInitIn K (He.ga K x) errT "ValueError.__new__" = true
  xf : XfC K (He.ga K x)
  ini : initShape K file (He.ga K x) (He.ma K (He.ga K x) "__init__") = true
  sub : PySem.W.mroIn K (He.ga K x) (.ref (He.ga K x)) = some true
  subV : PySem.W.subIn K (.ref (He.ga K x)) (.type "ValueError") = some true
  subB : PySem.W.subIn K (.ref (He.ga K x)) (.type "BaseException") = some true
  ty : PySem.W.typeIn K (.ref (He.ga K x)) = some (.type "type")
theorem errC_of {K : PySem.W.Frag} {x : Str} (e : errB K file x = true) : ErrC K x := by
  unfold errB at e
  simp only [Bool.and_eq_true, decide_eq_true_eq] at e
  obtain ⟨e1, e2, e3, e4, e5, e6, e7, e8, e9, e10, e11, e12, e13⟩ := e
  exact ⟨e1, e2, He.eqO_ok e3, He.eqO_ok e4, e5, He.eqO_ok e6, e7, xfB_ok e8, e9, e10, e11, e12, e13⟩
def IsInit (f : Str) (st : Stmt) : Prop := ∃ p1 p2 tx a b c d e e' g h i j, defArgs st = OE.eA f p1 p2 ∧ defBody st = [OE.eB0 tx a b c d e e', OE.eB1 f g h i j] ∧ defScope st = OE.eS f ∧ (c.endLine == e.line) = true
theorem iniStays : IsInit "index" (inClass (top 11) 0) := ⟨_, _, _, _, _, _, _, _, _, _, _, _, _, rfl, rfl, rfl, rfl⟩
theorem iniMany : IsInit "many" (inClass (top 12) 0) := ⟨_, _, _, _, _, _, _, _, _, _, _, _, _, rfl, rfl, rfl, rfl⟩
theorem iniIndex : IsInit "index" (inClass (top 8) 0) := ⟨_, _, _, _, _, _, _, _, _, _, _, _, _, rfl, rfl, rfl, rfl⟩
theorem iniDay : IsInit "day" (inClass (top 10) 0) := ⟨_, _, _, _, _, _, _, _, _, _, _, _, _, rfl, rfl, rfl, rfl⟩
theorem bdsStays : OE.Bds "index" := fun fd h1 h2 h3 x u => by
  obtain ⟨n1, n2, ps, b, s, c, d1, d2, g⟩ := fd
  obtain ⟨p1, p2, h1⟩ := h1
  dsimp only at h1 h2 h3
  subst h1 h2 h3
  exact ⟨rfl, rfl⟩
theorem bdsMany : OE.Bds "many" := fun fd h1 h2 h3 x u => by
  obtain ⟨n1, n2, ps, b, s, c, d1, d2, g⟩ := fd
  obtain ⟨p1, p2, h1⟩ := h1
  dsimp only at h1 h2 h3
  subst h1 h2 h3
  exact ⟨rfl, rfl⟩
theorem bdsIndex : OE.Bds "index" := fun fd h1 h2 h3 x u => by
  obtain ⟨n1, n2, ps, b, s, c, d1, d2, g⟩ := fd
  obtain ⟨p1, p2, h1⟩ := h1
  dsimp only at h1 h2 h3
  subst h1 h2 h3
  exact ⟨rfl, rfl⟩
theorem bdsDay : OE.Bds "day" := fun fd h1 h2 h3 x u => by
  obtain ⟨n1, n2, ps, b, s, c, d1, d2, g⟩ := fd
  obtain ⟨p1, p2, h1⟩ := h1
  dsimp only at h1 h2 h3
  subst h1 h2 h3
  exact ⟨rfl, rfl⟩
theorem init_of {P : Program} {K : PySem.W.Frag} {x : Str} {st : Stmt} (hf : file = P.main.file) (c : ErrC K x) (o : initO K (He.ma K (He.ga K x) "__init__") = initV st) :
    ∃ (oc : Value) (od : Option Addr) (doc pm : Value) (an : Option Addr) (ct : Value) (osl : Array (Option Value)) (qual : Str) (cc cda : Addr) (vs : Array Value) (fl : Str) (tf : Tok) (ccl cl : Value) (cdd cld : Option Addr) (ccs csl : Array (Option Value)),
    K.lookup (He.ma K (He.ga K x) "__init__") = some ⟨oc, od, .func (PySem.W.fnX "__init__" qual (defArgs st) (defBody st) (defScope st) [("__class__", cc)] .none .none doc pm an (.ref cda) ct), osl⟩ ∧ PySem.W.codeIn K (.ref cda) qual = true ∧
    K.lookup cda = some ⟨ccl, cdd, .fields vs, ccs⟩ ∧ vs[2]? = some (.str fl tf) ∧ ((P.main.file : Str) == fl) = true ∧ K.lookup cc = some ⟨cl, cld, .cell (some (.ref (He.ga K x))), csl⟩ := by
  have h := c.ini
  unfold initShape at h
  unfold initO at o
  cases e : K.lookup (He.ma K (He.ga K x) "__init__") with
  | none =>
    rw [e] at h
    cases h
  | some ob =>
    obtain ⟨oc, od, dt, osl⟩ := ob
    rw [e] at h o
    cases dt with
    | func fd =>
      obtain ⟨n1, n2, n3, n4, n5, n6, n7, n8, n9, n10, n11, n12, n13, n14, n15⟩ := fd
      dsimp only at h o
      simp only [Bool.and_eq_true] at h
      obtain ⟨h1, h2⟩ := h
      have o2 : (some (n1, n3, n4, n5, n6, n7.map (·.1), n8, n9, n15) : InV) = initV st := o
      unfold initV at o2
      simp only [Option.some.injEq, Prod.mk.injEq] at o2
      obtain ⟨o1, o2, o3, o4, o5, o6, o7, o8, o9⟩ := o2
      subst o1 o2 o3 o4 o5 o7 o8 o9
      unfold cellIs at h2
      split at h2
      · rename_i y cc
        split at h2
        · rename_i cl cld C' csl ec
          have eC : C' = He.ga K x := beq_iff_eq.mp h2
          subst eC
          have ex : y = ("__class__" : Str) := by simpa using o6
          subst ex
          split at h1
          · rename_i cda
            simp only [Bool.and_eq_true] at h1
            obtain ⟨g1, g2⟩ := h1
            unfold fileIs at g2
            split at g2
            · rename_i ccl cdd vs ccs ek
              split at g2
              · rename_i fl tf ev
                exact ⟨oc, od, n10, n11, n12, n14, osl, n2, cc, cda, vs, fl, tf, ccl, cl, cdd, cld, ccs, csl, rfl, g1, ek, ev, by rw [← hf]; exact g2, ec⟩
              · cases g2
            · cases g2
          · cases h1
        · cases h2
      · cases h2
    | _ => cases h
theorem errK_of {P : Program} {K : PySem.W.Frag} {mg : Str → Option Value} {x f : Str} {st : Stmt} (hf : file = P.main.file) (c : ErrC K x) (o : initO K (He.ma K (He.ga K x) "__init__") = initV st) (I : IsInit f st) (B : OE.Bds f) (nof : PySem.W.findIn K (.ref (He.ga K x)) f = some none)
    (opq : PySem.W.nsIn K cStatics "thirdparty.any" = some none) (spr : PySem.W.nsIn K mainGlobals "super" = some none) (g : mg x = some (.ref (He.ga K x))) (fok : (f == ("self" : Str)) = false ∧ (f == ("__class__" : Str)) = false ∧ (f == ("super" : Str)) = false ∧ (f == ("__debug__" : Str)) = false) :
    ErrK P K mg x (He.ga K x) (He.ma K (He.ga K x) "__init__") f := by
  obtain ⟨oc, od, doc, pm, an, ct, osl, qual, cc, cda, vs, fl, tf, ccl, cl, cdd, cld, ccs, csl, k1, k2, k3, k4, k5, k6⟩ := init_of (P := P) hf c o
  obtain ⟨nm, q, N, bs, sn, sub, ab, col, dd, m0, m1, m2, m3, m5, hC⟩ := shape_ok c.shape
  have rv : PySem.HandSPX.refsVE (.ref (He.ga K "AddressError") :: errT) = true := by
    show PySem.HandSPX.refsVE errT = true
    decide +kernel
  obtain ⟨p1, p2, tx, a, b, c', d, e0, e', g', h', i', j', i1, i2, i3, i4⟩ := I
  rw [i1, i2, i3] at k1
  exact ⟨⟨⟨nm, q, N, bs, _, sn, sub, ab, col, dd, m0, m1, m2, m3, m5, hC, rv⟩, c.sa, nof, c.iC, c.tC, c.sup, c.sub, c.exI, c.subV, opq, spr, ⟨oc, od, doc, pm, an, ct, osl, p1, p2, tx, a, b, c', d, e0, e', g', h', i', j', qual, cc, cda, vs, fl, tf, ccl, cl, cdd, cld, ccs, csl, k1, k2, i4, k3, k4, k5, k6⟩, fok⟩, B, g, c.keep, c.subB, c.ty⟩
end OB
namespace OB
open PySem PySem.Spec PyProof.Rows L2 LamX
/-! ### the law called by the outermost caller: the script and the tables are ours -/
def tab0 : Obj := { cls := .none, data := .fields #[] }
theorem data_ne {o o' : Obj} (h : o.data ≠ o'.data) : o ≠ o' := fun z => h (congrArg Obj.data z)
theorem law_at {P : Program} {w : World} {K : PySem.W.Frag} {mg mb : Str → Option Value} {fa a : Addr} {cs : List (Addr × Addr)} {s₁ : Shared} {vs : List Value} {ns : List Int}
    (KX : K.In s₁.heap) (nG : s₁.heap.Ns mainGlobals mg) (nB : s₁.heap.Ns builtinsNs mb) (hB : ∀ x : Str, x ≠ "__name__" → mb x = bootBuiltins x) (lim : s₁.heap.NoLimit) (ge : s₁.gens = #[])
    (tT : ∀ p ∈ cs, s₁.heap.get? p.2 = some tab0) (tK : ∀ p ∈ cs, K.lookup p.2 = none) (tC : ∀ p ∈ cs, PySem.W.CodeHd s₁.heap p.1 p.2)
    (bm : ∃ (m : Addr) (ob : Obj), mg "__builtins__" = some (.ref m) ∧ m ≠ builtinsNs ∧ s₁.heap.get? m = some ob ∧ ob.cls = .type "module" ∧ ob.dict = some builtinsNs ∧ ob.data = .plain)
    (ga : s₁.heap.get? a = some { cls := .type "list", data := .seq vs.toArray }) (iv : IntsAre vs ns) (hl : ns.length ≤ sizeLine)
    (run : ∀ (base : Heap) (H : Hp), K.In base → base.Ns mainGlobals mg → (∀ p ∈ cs, TabB base mg p.1 p.2) → (∀ p ∈ cs, H p.2 = some (.tbl #[])) → SqL K H a (ns.map V.int) → Env0 P w K mg base callerA [] s₁ H →
      codeAny (model P w) callerA (.call (.ref fa) ⟨[.ref a], []⟩) (CR CX0 [] P w H s₁ (fun v _ => v = .bl true) (fun _ _ _ => False)) s₁) :
    codeAny (model P w) callerA (.call (.ref fa) ⟨[.ref a], []⟩) (fun r s' => r = .ok (.ret (.bool true)) ∧ OldK s₁.heap s'.heap ∧ s'.os = s₁.os ∧ AllBare s'.gens) s₁ := by
  have rv := vals_ints iv
  have lv := iv.length
  -- what is hidden
  let own : Prop := K.lookup a = none
  let tb := cs.map (·.2)
  have inT : ∀ p ∈ cs, p.2 ∈ tb := fun p m => List.mem_map.mpr ⟨p, m, rfl⟩
  have ofT : ∀ b ∈ tb, s₁.heap.get? b = some tab0 ∧ K.lookup b = none := fun b m => by
    obtain ⟨p, mp, e⟩ := List.mem_map.mp m
    rw [← e]
    exact ⟨tT p mp, tK p mp⟩
  have aT : a ∉ tb := fun z => by
    have q := (ofT a z).1
    rw [ga] at q
    exact data_ne (fun y => by cases y) (Option.some.inj q)
  have main : ∀ (hid : List Addr) (H : Hp), (∀ b, H b ≠ none ↔ b ∈ hid) → (∀ b ∈ hid, b = a ∨ b ∈ tb) → (∀ b ∈ hid, K.lookup b = none) → (∀ p ∈ cs, H p.2 = some (.tbl #[])) → (∀ b, H b = none ∨ (b ∈ tb ∧ H b = some (.tbl #[])) ∨ (b ∉ tb ∧ ∃ o xs, H b = some (.frz o (.lst xs)))) →
      SqL K H a (ns.map V.int) → HOk P w H s₁.heap → codeAny (model P w) callerA (.call (.ref fa) ⟨[.ref a], []⟩) (fun r s' => r = .ok (.ret (.bool true)) ∧ OldK s₁.heap s'.heap ∧ s'.os = s₁.os ∧ AllBare s'.gens) s₁ := by
    intro hid H hH hab hKn hTb hAll hS hok
    have get : ∀ {b : Addr} {o : Obj}, s₁.heap.get? b = some o → b ∉ hid → (PySem.W.hideAll s₁.heap hid).get? b = some o := fun e n => PySem.W.hideAll_get _ e n
    have other : ∀ {b : Addr} {o : Obj}, s₁.heap.get? b = some o → (∀ x n, o.data ≠ .seq x n) → o.data ≠ .fields #[] → b ∉ hid := fun {b o} e n1 n2 m => by
      rcases hab b m with z | z
      · rw [z, ga] at e
        cases e
        exact n1 _ _ rfl
      · rw [(ofT b z).1] at e
        cases e
        exact n2 rfl
    have nsH : ∀ {b : Addr} {m : Str → Option Value}, s₁.heap.Ns b m → (PySem.W.hideAll s₁.heap hid).Ns b m := fun {b m} ⟨o, es, ep, e, d, r⟩ => ⟨o, es, ep, get e (other e (fun x n z => by rw [d] at z; cases z) (fun z => by rw [d] at z; cases z)), d, r⟩
    have KB : K.In (PySem.W.hideAll s₁.heap hid) := fun b o e => get (KX b o e) fun m => by
      rw [hKn b m] at e
      cases e
    have M : L2.Mod K mg (PySem.W.hideAll s₁.heap hid) := ⟨KB, nsH nG, ⟨mb, nsH nB, hB⟩, let ⟨mc, h1, h2⟩ := lim; ⟨mc, nsH h1, h2⟩⟩
    have TB : ∀ p ∈ cs, TabB (PySem.W.hideAll s₁.heap hid) mg p.1 p.2 := fun p mp => by
      refine ⟨?_, ?_, fun z => ?_⟩
      · obtain ⟨o, us, f1, f2, f3, f4, f5, f6, f7, e1, r1, r2, r3, rest⟩ := tC p mp
        refine ⟨o, us, f1, f2, f3, f4, f5, f6, f7, get e1 (other e1 (fun x n z => ?_) fun z => ?_), r1, r2, r3, rest⟩
        · rw [r2] at z
          cases z
        · rw [r2] at z
          have y := Data.fields.inj z
          rw [y] at r3
          simp at r3
      · obtain ⟨m, ob, c1, c2, c3, c4, c5, c6⟩ := bm
        have n1 : m ≠ mainGlobals := fun q => by
          obtain ⟨o, es, ep, e, d, _⟩ := nG
          rw [q, e] at c3
          cases c3
          rw [d] at c6
          cases c6
        have n2 : m ≠ p.2 := fun q => by
          rw [q, tT p mp] at c3
          cases c3
          cases c6
        exact ⟨m, ob, c1, c2, n1, n2, get c3 (other c3 (fun x n z => by rw [c6] at z; cases z) (fun z => by rw [c6] at z; cases z)), c4, c5, c6⟩
      · obtain ⟨o, es, ep, e, d, _⟩ := nG
        rw [z, tT p mp] at e
        cases e
        cases d
    have hN : ∀ b o, (PySem.W.hideAll s₁.heap hid).get? b = some o → s₁.heap.get? b = some o ∧ H b = none := fun b o e => by
      refine ⟨PySem.W.of_hideAll _ e, ?_⟩
      cases q : H b with
      | none => rfl
      | some u =>
        have m : b ∈ hid := (hH b).mp (by rw [q]; simp)
        rw [PySem.W.hideAll_none _ m] at e
        cases e
    have e0 : Env0 P w K mg (PySem.W.hideAll s₁.heap hid) callerA [] s₁ H := ⟨rfl, M, hN, Nat.le_of_eq (PySem.W.hideAll_size _ _), trivial, fun b hb => absurd (show b ∈ ([] : List Addr) from hb) (by simp), hok, .of_eq ge⟩
    refine codeAny_mono (run _ H KB (nsH nG) TB hTb hS e0) fun r s' z => ?_
    cases r with
    | error e => exact (show False from z).elim
    | ok fl =>
      cases fl with
      | next => exact False.elim z
      | brk => exact False.elim z
      | cont => exact False.elim z
      | ret u =>
        obtain ⟨v, H', os, bare, un, hok', rr, q⟩ := z
        have q' : v = .bl true := q
        subst q'
        obtain rfl : u = Value.bool true := rr
        have stays : ∀ b o, b ∉ tb → s₁.heap.get? b = some o → s'.heap.get? b = some o := fun b o nb e => by
          rcases hAll b with y | y | ⟨_, ob, xs, y⟩
          · exact un.keep b o e y (fun z => absurd (show b ∈ ([] : List Addr) from z) (by simp)) (by simp)
          · exact absurd y.1 nb
          · obtain ⟨d1, _⟩ := hok b _ y
            obtain ⟨d2, _⟩ := hok' b _ (un.frzs b ob _ y)
            rw [e] at d1
            cases d1
            exact d2
        have grow : ∀ p ∈ cs, ∃ more : Array Value, s'.heap.get? p.2 = some { cls := .none, data := .fields more } := fun p mp => by
          obtain ⟨more, y⟩ := un.tbls p.2 #[] (hTb p mp)
          exact ⟨_, hok' p.2 _ y⟩
        refine ⟨rfl, ⟨fun b o e => ?_, fun b o e => ?_⟩, os, bare⟩
        · by_cases hb : b ∈ tb
          · obtain ⟨p, mp, ep⟩ := List.mem_map.mp hb
            obtain ⟨more, gm⟩ := grow p mp
            rw [← ep] at e ⊢
            rw [tT p mp] at e
            cases e
            exact .inr (.inl ⟨((tC p mp).tab (tT p mp)).isCodeTable, rfl, #[], more, rfl, by rw [Array.empty_append]; exact gm⟩)
          · exact .inl (stays b o hb e)
        · by_cases hb : b ∈ tb
          · obtain ⟨p, mp, ep⟩ := List.mem_map.mp hb
            obtain ⟨more, gm⟩ := grow p mp
            rw [← ep]
            exact ⟨_, gm⟩
          · exact ⟨o, stays b o hb e⟩
  cases hk : K.lookup a with
  | some o =>
    have e := KX a o hk
    rw [ga] at e
    cases e
    refine main tb (fun b => if b ∈ tb then some (.tbl #[]) else none) (fun b => ?_) (fun b m => .inr m) (fun b m => (ofT b m).2) (fun p mp => if_pos (inT p mp)) (fun b => ?_) (.inr ⟨_, vs.toArray, _, hk, rfl, rfl, rfl, by rw [List.size_toArray, lv]; exact hl, by simpa using rv⟩) (fun b u z => ?_)
    · by_cases hb : b ∈ tb <;> simp [hb]
    · by_cases hb : b ∈ tb
      · exact .inr (.inl ⟨hb, if_pos hb⟩)
      · exact .inl (if_neg hb)
    · by_cases hb : b ∈ tb
      · have y := (if_pos hb).symm.trans z
        cases y
        exact (ofT b hb).1
      · have y := (if_neg hb).symm.trans z
        cases y
  | none =>
    refine main (a :: tb) (fun b => if b = a then some (.frz { cls := .type "list", data := .seq vs.toArray } (.lst (ns.map V.int))) else if b ∈ tb then some (.tbl #[]) else none) (fun b => ?_) (fun b m => ?_) (fun b m => ?_) (fun p mp => ?_) (fun b => ?_) (.inl (.inr ⟨_, if_pos rfl⟩)) (fun b u z => ?_)
    · by_cases h1 : b = a
      · simp [h1]
      · by_cases h2 : b ∈ tb <;> simp [h1, h2]
    · rcases List.mem_cons.mp m with y | y
      · exact .inl y
      · exact .inr y
    · rcases List.mem_cons.mp m with y | y
      · rw [y]
        exact hk
      · exact (ofT b y).2
    · have ne : p.2 ≠ a := fun y => aT (by rw [← y]; exact inT p mp)
      show (if p.2 = a then _ else _) = _
      rw [if_neg ne, if_pos (inT p mp)]
    · by_cases h1 : b = a
      · exact .inr (.inr ⟨by rw [h1]; exact aT, _, _, if_pos h1⟩)
      · by_cases h2 : b ∈ tb
        · exact .inr (.inl ⟨h2, (if_neg h1).trans (if_pos h2)⟩)
        · exact .inl ((if_neg h1).trans (if_neg h2))
    · by_cases h1 : b = a
      · have y := (if_pos h1).symm.trans z
        cases y
        rw [h1]
        exact ⟨ga, by rw [List.length_map]; exact hl, vs, _, rv, ga⟩
      · have y1 := (if_neg h1).symm.trans z
        by_cases h2 : b ∈ tb
        · have y := (if_pos h2).symm.trans y1
          cases y
          exact (ofT b h2).1
        · have y := (if_neg h2).symm.trans y1
          cases y
end OB
namespace OB
open PySem PySem.Spec PyProof.Rows L2 LamX
/-! ### all that the law rests on, as the looks say it -/
section
variable {P : Program} {w : World} {h : Heap} {K : PySem.W.Frag} {mg : Str → Option Value} {base : Heap}
theorem SaysK.fnC (s : SaysK w h K) {x : Str} {i : Nat} (m : (x, i) ∈ fns) : ∃ fd, FunC K x x (top i) (He.ga K x) fd (He.cT K (x, none)).1 := by
  obtain ⟨oc, od, osl, kV, doc, pm, an, cdv, ct, lk, hc⟩ := s.def_ (d := dFn (x, i)) (List.mem_append_left _ (List.mem_map.mpr ⟨_, m, rfl⟩))
  obtain ⟨c, rfl⟩ := He.codeIn_ref hc
  have e : (He.cT K (x, none)).1 = c := He.codeOf_eq (p := (x, none)) lk rfl
  rw [e]
  exact ⟨_, ⟨oc, od, kV, doc, pm, an, ct, osl, rfl, lk, hc⟩, s.fact (mem_fa2 m)⟩
theorem cls_at {K : PySem.W.Frag} {a : Addr} (c : clsIs K a = true) : ∃ o, K.lookup a = some o ∧ o.cls = .type "function" := by
  unfold clsIs at c
  split at c
  · rename_i ty d dt sl e
    have e1 : ty = "function" := of_decide_eq_true c
    exact ⟨_, e, by rw [e1]⟩
  · cases c
theorem has_at {K : PySem.W.Frag} {a : Addr} (c : hasB K a = true) : ∃ o, K.lookup a = some o := by
  unfold hasB at c
  split at c
  · rename_i o e
    exact ⟨o, e⟩
  · cases c
structure ExD (K : PySem.W.Frag) : Prop where
  eStays : ErrC K "BadStays"
  eMany : ErrC K "BadMany"
  eIndex : ErrC K "BadIndex"
  eDay : ErrC K "BadDay"
  opq : PySem.W.nsIn K cStatics "thirdparty.any" = some none
  sys : ∃ o, K.lookup sysModules = some o
  met : ∃ o, K.lookup (He.ga K "_law_met") = some o ∧ o.cls = .type "function"
  last : ∃ o, K.lookup (He.ga K "_law_late") = some o ∧ o.cls = .type "function"
  ne01 : (He.cT K ("by_begins", none)).2 ≠ (He.cT K ("_law_order", none)).2
  ne02 : (He.cT K ("by_begins", none)).2 ≠ (He.cT K ("_law_refused_right", none)).2
  ne12 : (He.cT K ("_law_order", none)).2 ≠ (He.cT K ("_law_refused_right", none)).2
theorem SaysK.ex (s : SaysK w h K) : ExD K := by
  have e := s.D
  unfold exB at e
  simp only [Bool.and_eq_true, Bool.not_eq_true', beq_eq_false_iff_ne] at e
  obtain ⟨e1, e2, e3, e4, e5, e6, e7, e8, e9, e10, e11⟩ := e
  exact ⟨errC_of e1, errC_of e2, errC_of e3, errC_of e4, He.eqO_ok e5, has_at e6, cls_at e7, cls_at e8, e9, e10, e11⟩
theorem SaysK.init (s : SaysK w h K) : initO K (He.ma K (He.ga K "BadStays") "__init__") = initV (inClass (top 11) 0) ∧ initO K (He.ma K (He.ga K "BadMany") "__init__") = initV (inClass (top 12) 0) ∧ initO K (He.ma K (He.ga K "BadIndex") "__init__") = initV (inClass (top 8) 0) ∧ initO K (He.ma K (He.ga K "BadDay") "__init__") = initV (inClass (top 10) 0) := by
  have e : (inits.map fun p => initO K (He.ma K (He.ga K p.1) "__init__")) = inits.map fun p => initV p.2 := s.C
  have e1 : [initO K (He.ma K (He.ga K "BadStays") "__init__"), initO K (He.ma K (He.ga K "BadMany") "__init__"), initO K (He.ma K (He.ga K "BadIndex") "__init__"), initO K (He.ma K (He.ga K "BadDay") "__init__")] = [initV (inClass (top 11) 0), initV (inClass (top 12) 0), initV (inClass (top 8) 0), initV (inClass (top 10) 0)] := e
  injection e1 with h1 e1
  injection e1 with h2 e1
  injection e1 with h3 e1
  injection e1 with h4 _
  exact ⟨h1, h2, h3, h4⟩
end
theorem room10 : Room 10 callerA := ⟨rfl, by decide, by decide⟩
section
variable {P : Program} {w : World} {h : Heap} {K : PySem.W.Frag} {mg : Str → Option Value} {base : Heap}
theorem FunC.binds {x qual : Str} {st : Stmt} {f c : Addr} {fd : FuncData} {ps : List Str} (F : FunC K x qual st f fd c)
    (h : ∀ (kV doc pm : Value) (an : Option Addr) (ct : Value) (us : List Value), us.length = ps.length → bindArgs (PySem.W.fnOf x qual (defArgs st) (defBody st) (defScope st) .none kV doc pm an (.ref c) ct) ⟨us, []⟩ = pure (ps.zip us)) : Binds K fd ps [] := by
  obtain ⟨oc, od, kV, doc, pm, an, ct, osl, rfl, lk, hcd⟩ := F.ex
  exact .all (h kV doc pm an ct)
abbrev pBy (K : PySem.W.Frag) : Addr × Addr := He.cT K ("by_begins", none)
abbrev pOrd (K : PySem.W.Frag) : Addr × Addr := He.cT K ("_law_order", none)
abbrev pRR (K : PySem.W.Frag) : Addr × Addr := He.cT K ("_law_refused_right", none)
abbrev TTs (K : PySem.W.Frag) : List (Addr × Str) := [((pBy K).2, qBy), ((pOrd K).2, qOrd), ((pRR K).2, qRef)]
def cls5 (K : PySem.W.Frag) : Cls5 := ⟨He.ga K "BadStays", He.ga K "BadMany", He.ga K "BadIndex", He.ga K "BadDay"⟩
/-- the law's body at the outermost caller -/
theorem law_run (hP : file = P.main.file) (htop : (P.main.scope.names.lookup ("super" : Str)).isSome = false) (s : SaysK w h K) (X : K.In base) (G : base.Ns mainGlobals mg) (TBBy : TabB base mg (pBy K).1 (pBy K).2) (TBOrd : TabB base mg (pOrd K).1 (pOrd K).2) (TBRR : TabB base mg (pRR K).1 (pRR K).2)
    {fa a : Addr} {cdv : Value} {s₁ : Shared} {H : Hp} {ns : List Int} (hS : SqL K H a (ns.map V.int)) (hn : ns.length ≤ 100) (tabs : Tabs (TTs K) H) (hr : Room 9 (cxLaw P w K mg base fa cdv s₁ H).A) :
    ∃ t, PSs (cxLaw P w K mg base fa cdv s₁ H) (defBody sLaw) t ∧ t { nx := fun _ _ => (V.non = .bl true), rt := fun v _ => v = .bl true } (L2.start Nlw [.ref a]) H := by
  have D := s.ex
  have fr : ∀ {x : Str}, x ∈ frees → mg x = none := fun m => s.free X G m
  have T : TxtC mg := ⟨fr (by simp [frees]), fr (by simp [frees]), fr (by simp [frees]), fr (by simp [frees]), fr (by simp [frees]), fr (by simp [frees]), fr (by simp [frees]), fr (by simp [frees])⟩
  have TD : TxtD mg := ⟨fr (by simp [frees]), fr (by simp [frees]), fr (by simp [frees]), fr (by simp [frees]), fr (by simp [frees]), fr (by simp [frees]), fr (by simp [frees])⟩
  have TF : TxtF mg := ⟨fr (by simp [frees]), fr (by simp [frees]), fr (by simp [frees]), fr (by simp [frees])⟩
  have en : mg "enumerate" = none := fr (by simp [frees])
  have so : mg "sorted" = none := fr (by simp [frees])
  have se : mg "set" = none := fr (by simp [frees])
  have li : mg "list" = none := fr (by simp [frees])
  have mx : mg "max" = none := fr (by simp [frees])
  have mi : mg "min" = none := fr (by simp [frees])
  have rp : mg "repr" = none := fr (by simp [frees])
  have rg : mg "range" = none := fr (by simp [frees])
  have le : mg "len" = none := fr (by simp [frees])
  have zi : mg "zip" = none := fr (by simp [frees])
  have di : mg "dict" = none := fr (by simp [frees])
  have su : mg "sum" = none := fr (by simp [frees])
  have an : mg "any" = none := fr (by simp [frees])
  have spr : PySem.W.nsIn K mainGlobals "super" = some none := He.eqO_ok (s.fact (mem_free (by simp [frees])))
  obtain ⟨i1, i2, i3, i4⟩ := s.init
  have gBadStays : mg "BadStays" = some (.ref (He.ga K "BadStays")) := He.glo_ok X G (s.fact (mem_fa1 (by simp [fa1])))
  have EStays : ErrK P K mg "BadStays" (He.ga K "BadStays") (He.ma K (He.ga K "BadStays") "__init__") "index" := errK_of hP D.eStays i1 iniStays bdsStays (He.noat_ok (s.fact (mem_fa1 (by simp [fa1])))) D.opq spr gBadStays ⟨rfl, rfl, rfl, rfl⟩
  have gBadMany : mg "BadMany" = some (.ref (He.ga K "BadMany")) := He.glo_ok X G (s.fact (mem_fa1 (by simp [fa1])))
  have EMany : ErrK P K mg "BadMany" (He.ga K "BadMany") (He.ma K (He.ga K "BadMany") "__init__") "many" := errK_of hP D.eMany i2 iniMany bdsMany (He.noat_ok (s.fact (mem_fa1 (by simp [fa1])))) D.opq spr gBadMany ⟨rfl, rfl, rfl, rfl⟩
  have gBadIndex : mg "BadIndex" = some (.ref (He.ga K "BadIndex")) := He.glo_ok X G (s.fact (mem_fa1 (by simp [fa1])))
  have EIndex : ErrK P K mg "BadIndex" (He.ga K "BadIndex") (He.ma K (He.ga K "BadIndex") "__init__") "index" := errK_of hP D.eIndex i3 iniIndex bdsIndex (He.noat_ok (s.fact (mem_fa1 (by simp [fa1])))) D.opq spr gBadIndex ⟨rfl, rfl, rfl, rfl⟩
  have gBadDay : mg "BadDay" = some (.ref (He.ga K "BadDay")) := He.glo_ok X G (s.fact (mem_fa1 (by simp [fa1])))
  have EDay : ErrK P K mg "BadDay" (He.ga K "BadDay") (He.ma K (He.ga K "BadDay") "__init__") "day" := errK_of hP D.eDay i4 iniDay bdsDay (He.noat_ok (s.fact (mem_fa1 (by simp [fa1])))) D.opq spr gBadDay ⟨rfl, rfl, rfl, rfl⟩
  obtain ⟨gInt, fdInt, FInt⟩ := s.fn X G (x := "is_integer") (i := 1) (by simp [fns, fns0])
  have bInt := FInt.binds (ps := ["thing"]) (fun _ _ _ _ _ _ us hl => match us, hl with | [_], _ => rfl)
  obtain ⟨gNum, fdNum, FNum⟩ := s.fn X G (x := "is_number") (i := 2) (by simp [fns, fns0])
  have bNum := FNum.binds (ps := ["thing"]) (fun _ _ _ _ _ _ us hl => match us, hl with | [_], _ => rfl)
  obtain ⟨gOne, fdOne, FOne⟩ := s.fn X G (x := "is_from_one") (i := 3) (by simp [fns, fns0])
  have bOne := FOne.binds (ps := ["thing"]) (fun _ _ _ _ _ _ us hl => match us, hl with | [_], _ => rfl)
  obtain ⟨gList, fdList, FList⟩ := s.fn X G (x := "is_list") (i := 4) (by simp [fns, fns0])
  have bList := FList.binds (ps := ["thing"]) (fun _ _ _ _ _ _ us hl => match us, hl with | [_], _ => rfl)
  obtain ⟨gFirst, fdFirst, FFirst⟩ := s.fn X G (x := "first_wrong") (i := 5) (by simp [fns, fns0])
  have bFirst := FFirst.binds (ps := ["things", "is_right"]) (fun _ _ _ _ _ _ us hl => match us, hl with | [_, _], _ => rfl)
  obtain ⟨gIsStay, fdIsStay, FIsStay⟩ := s.fn X G (x := "is_stay") (i := 14) (by simp [fns, fns0])
  have bIsStay := FIsStay.binds (ps := ["thing"]) (fun _ _ _ _ _ _ us hl => match us, hl with | [_], _ => rfl)
  obtain ⟨gTold, fdTold, FTold⟩ := s.fn X G (x := "told_stays") (i := 15) (by simp [fns, fns0])
  have bTold := FTold.binds (ps := ["stays"]) (fun _ _ _ _ _ _ us hl => match us, hl with | [_], _ => rfl)
  obtain ⟨gCkIdx, fdCkIdx, FCkIdx⟩ := s.fn X G (x := "check_index") (i := 16) (by simp [fns, fns0])
  have bCkIdx := FCkIdx.binds (ps := ["stays", "index"]) (fun _ _ _ _ _ _ us hl => match us, hl with | [_, _], _ => rfl)
  obtain ⟨gCkOne, fdCkOne, FCkOne⟩ := s.fn X G (x := "check_from_one") (i := 19) (by simp [fns, fns0])
  have bCkOne := FCkOne.binds (ps := ["many"]) (fun _ _ _ _ _ _ us hl => match us, hl with | [_], _ => rfl)
  obtain ⟨gBeg, fdBeg, FBeg⟩ := s.fn X G (x := "begins_and_causes") (i := 20) (by simp [fns, fns0])
  have bBeg := FBeg.binds (ps := ["stays", "many"]) (fun _ _ _ _ _ _ us hl => match us, hl with | [_, _], _ => rfl)
  obtain ⟨gLat, fdLat, FLat⟩ := s.fn X G (x := "latest_of") (i := 21) (by simp [fns, fns0])
  have bLat := FLat.binds (ps := ["stays", "many"]) (fun _ _ _ _ _ _ us hl => match us, hl with | [_, _], _ => rfl)
  obtain ⟨gLateB, fdLateB, FLateB⟩ := s.fn X G (x := "late_begins") (i := 22) (by simp [fns, fns0])
  have bLateB := FLateB.binds (ps := ["stays", "many"]) (fun _ _ _ _ _ _ us hl => match us, hl with | [_, _], _ => rfl)
  obtain ⟨gLatest, fdLatest, FLatest⟩ := s.fn X G (x := "latest") (i := 23) (by simp [fns, fns0])
  have bLatest := FLatest.binds (ps := ["stays", "many"]) (fun _ _ _ _ _ _ us hl => match us, hl with | [_, _], _ => rfl)
  obtain ⟨gWay, fdWay, FWay⟩ := s.fn X G (x := "in_the_way") (i := 24) (by simp [fns, fns0])
  have bWay := FWay.binds (ps := ["stays", "many", "index"]) (fun _ _ _ _ _ _ us hl => match us, hl with | [_, _, _], _ => rfl)
  obtain ⟨gAddr, fdAddr, FAddr⟩ := s.fn X G (x := "addresses_for") (i := 25) (by simp [fns, fns0])
  have bAddr := FAddr.binds (ps := ["stays", "late"]) (fun _ _ _ _ _ _ us hl => match us, hl with | [_, _], _ => rfl)
  obtain ⟨gLStream, fdLStream, FLStream⟩ := s.fn X G (x := "_law_stream") (i := 27) (by simp [fns, fns1])
  have bLStream := FLStream.binds (ps := ["script", "k"]) (fun _ _ _ _ _ _ us hl => match us, hl with | [_, _], _ => rfl)
  obtain ⟨gDraw, fdDraw, FDraw⟩ := s.fn X G (x := "_law_draw") (i := 28) (by simp [fns, fns1])
  have bDraw := FDraw.binds (ps := ["stream", "many"]) (fun _ _ _ _ _ _ us hl => match us, hl with | [_, _], _ => rfl)
  obtain ⟨gPick, fdPick, FPick⟩ := s.fn X G (x := "_law_pick") (i := 29) (by simp [fns, fns1])
  have bPick := FPick.binds (ps := ["stream", "things"]) (fun _ _ _ _ _ _ us hl => match us, hl with | [_, _], _ => rfl)
  obtain ⟨gSame, fdSame, FSame⟩ := s.fn X G (x := "_law_same") (i := 30) (by simp [fns, fns1])
  have bSame := FSame.binds (ps := ["found", "due"]) (fun _ _ _ _ _ _ us hl => match us, hl with | [_, _], _ => rfl)
  obtain ⟨gAsL, fdAsL, FAsL⟩ := s.fn X G (x := "_law_as_lists") (i := 31) (by simp [fns, fns1])
  have bAsL := FAsL.binds (ps := ["stream", "thing"]) (fun _ _ _ _ _ _ us hl => match us, hl with | [_, _], _ => rfl)
  obtain ⟨gLStays, fdLStays, FLStays⟩ := s.fn X G (x := "_law_stays") (i := 32) (by simp [fns, fns1])
  have bLStays := FLStays.binds (ps := ["stream", "most"]) (fun _ _ _ _ _ _ us hl => match us, hl with | [_, _], _ => rfl)
  obtain ⟨gOdd, fdOdd, FOdd⟩ := s.fn X G (x := "_law_odd_stay") (i := 33) (by simp [fns, fns1])
  have bOdd := FOdd.binds (ps := ["stream"]) (fun _ _ _ _ _ _ us hl => match us, hl with | [_], _ => rfl)
  obtain ⟨gLLate, fdLLate, FLLate⟩ := s.fn X G (x := "_law_late") (i := 35) (by simp [fns, fns1])
  have bLLate := FLLate.binds (ps := ["stays", "many"]) (fun _ _ _ _ _ _ us hl => match us, hl with | [_, _], _ => rfl)
  obtain ⟨gLChain, fdLChain, FLChain⟩ := s.fn X G (x := "_law_chain") (i := 36) (by simp [fns, fns1])
  have bLChain := FLChain.binds (ps := ["stays", "late", "index"]) (fun _ _ _ _ _ _ us hl => match us, hl with | [_, _, _], _ => rfl)
  obtain ⟨gLWorst, fdLWorst, FLWorst⟩ := s.fn X G (x := "_law_worst") (i := 37) (by simp [fns, fns1])
  have bLWorst := FLWorst.binds (ps := ["stays", "late"]) (fun _ _ _ _ _ _ us hl => match us, hl with | [_, _], _ => rfl)
  obtain ⟨gMet, fdMet, FMet⟩ := s.fn X G (x := "_law_met") (i := 38) (by simp [fns, fns1])
  have bMet := FMet.binds (ps := ["ask"]) (fun _ _ _ _ _ _ us hl => match us, hl with | [_], _ => rfl)
  obtain ⟨gBy, fdBy0, FBy0⟩ := s.fn X G (x := "by_begins") (i := 17) (by simp [fns, fns0])
  obtain ⟨fdBy, FBy⟩ := s.fnC (x := "by_begins") (i := 17) (by simp [fns, fns0])
  have bBy := FBy.binds (ps := ["stays"]) fun _ _ _ _ _ us hl => match us, hl with | [_], _ => rfl
  obtain ⟨gOrd, fdOrd0, FOrd0⟩ := s.fn X G (x := "_law_order") (i := 34) (by simp [fns, fns1])
  obtain ⟨fdOrd, FOrd⟩ := s.fnC (x := "_law_order") (i := 34) (by simp [fns, fns1])
  have bOrd := FOrd.binds (ps := ["stays"]) fun _ _ _ _ _ us hl => match us, hl with | [_], _ => rfl
  obtain ⟨gRR, fdRR0, FRR0⟩ := s.fn X G (x := "_law_refused_right") (i := 39) (by simp [fns, fns1])
  obtain ⟨fdRR, FRR⟩ := s.fnC (x := "_law_refused_right") (i := 39) (by simp [fns, fns1])
  have bRR := FRR.binds (ps := ["stream", "stays"]) fun _ _ _ _ _ us hl => match us, hl with | [_, _], _ => rfl
  have mTBy : ((pBy K).2, qBy) ∈ TTs K := (List.mem_cons_self ..)
  have hTBy : ∀ y ∈ TTs K, y.1 = (pBy K).2 → y.2 = qBy := fun y m e => by
    rcases List.mem_cons.mp m with z | m
    · rw [z]
    rcases List.mem_cons.mp m with z | m
    · rw [z] at e
      exact absurd e.symm D.ne01
    have z := List.mem_singleton.mp m
    rw [z] at e
    exact absurd e.symm D.ne02
  have mTOrd : ((pOrd K).2, qOrd) ∈ TTs K := (List.mem_cons_of_mem _ (List.mem_cons_self ..))
  have hTOrd : ∀ y ∈ TTs K, y.1 = (pOrd K).2 → y.2 = qOrd := fun y m e => by
    rcases List.mem_cons.mp m with z | m
    · rw [z] at e
      exact absurd e D.ne01
    rcases List.mem_cons.mp m with z | m
    · rw [z]
    have z := List.mem_singleton.mp m
    rw [z] at e
    exact absurd e.symm D.ne12
  have mTRR : ((pRR K).2, qRef) ∈ TTs K := (List.mem_cons_of_mem _ (List.mem_cons_of_mem _ (List.mem_cons_self ..)))
  have hTRR : ∀ y ∈ TTs K, y.1 = (pRR K).2 → y.2 = qRef := fun y m e => by
    rcases List.mem_cons.mp m with z | m
    · rw [z] at e
      exact absurd e D.ne02
    rcases List.mem_cons.mp m with z | m
    · rw [z] at e
      exact absurd e D.ne12
    have z := List.mem_singleton.mp m
    rw [z]
  have GDraw : FnOk P w K mg base CX0 1 _ fdDraw ["stream", "many"] spDraw := ok_draw FDraw TD
  have GPick : FnOk P w K mg base CX0 2 _ fdPick ["stream", "things"] (spPick K) := ok_pick FPick TD GDraw gDraw FDraw.kp bDraw
  have GLStream : FnOk P w K mg base CX0 1 _ fdLStream ["script", "k"] (spStream K) := ok_stream FLStream TD
  have GLStays : FnOk P w K mg base CX0 3 _ fdLStays ["stream", "most"] spStays := ok_stays FLStays TD GDraw gDraw FDraw.kp bDraw GPick gPick FPick.kp bPick
  have GAsL : FnOk P w K mg base CX0 3 _ fdAsL ["stream", "thing"] spAs2 := ok_asL FAsL gAsL bAsL T GDraw gDraw FDraw.kp bDraw
  have GList : FnOk P w K mg base CX0 1 _ fdList ["thing"] (spAsk K fSeq) := ok_isList FList T
  have GNum : FnOk P w K mg base CX0 2 _ fdNum ["thing"] (spAsk K (numFrom 0)) := ok_isNum FNum FInt gInt T
  have GOne : FnOk P w K mg base CX0 2 _ fdOne ["thing"] (spAsk K (numFrom 1)) := ok_isOne FOne FInt gInt T
  have GIsStay : FnOk P w K mg base CX0 3 _ fdIsStay ["thing"] (spIsStay K) := ok_isStay FIsStay T GList gList FList.kp bList GNum gNum FNum.kp bNum
  have GFirst : FnOk P w K mg base CX0 4 _ fdFirst ["things", "is_right"] (spFirst K (He.ga K "is_stay")) := ok_first FFirst T en GList gList FList.kp bList GIsStay FIsStay.kp bIsStay
  have GTold : FnOk P w K mg base (L2.CX P w) 5 _ fdTold ["stays"] (spTold K (He.ga K "BadStays")) := ok_told FTold T gIsStay GFirst gFirst FFirst.kp bFirst EStays htop
  have GCkIdx : FnOk P w K mg base (L2.CX P w) 3 _ fdCkIdx ["stays", "index"] (spIdx K (He.ga K "BadIndex")) := ok_idx FCkIdx T GNum gNum FNum.kp bNum EIndex htop
  have GCkOne : FnOk P w K mg base (L2.CX P w) 3 _ fdCkOne ["many"] (spOne K (He.ga K "BadMany")) := ok_one FCkOne GOne gOne FOne.kp bOne EMany htop
  have GSame5 : FnOk P w K mg base CX0 5 _ fdSame ["found", "due"] (spSame (SameV K 4)) := ok_same FSame gSame T TF bSame 4
  have GSame : FnOk P w K mg base CX0 4 _ fdSame ["found", "due"] (spSame (SameV K 3)) := ok_same FSame gSame T TF bSame 3
  have GOdd : FnOk P w K mg base CX0 3 _ fdOdd ["stream"] (spOdd K) := ok_odd FOdd GPick gPick FPick.kp bPick
  have GBy : FnOk P w K mg base CX0 3 _ fdBy ["stays"] (spBy (TTs K)) := ok_by FBy so rg le TBBy hTBy mTBy
  have GOrd : FnOk P w K mg base CX0 3 _ fdOrd ["stays"] (spBy (TTs K)) := ok_ord FOrd so rg le TBOrd hTOrd mTOrd
  have GBeg : FnOk P w K mg base CX0 4 _ fdBeg ["stays", "many"] (spBeg (TTs K)) := ok_beg FBeg en le mx mi rg GBy gBy FBy.kp bBy
  have GLat : FnOk P w K mg base CX0 5 _ fdLat ["stays", "many"] (spLat (TTs K)) := ok_lat FLat mx zi GBeg gBeg FBeg.kp bBeg
  have GLateB : FnOk P w K mg base (L2.CX P w) 6 _ fdLateB ["stays", "many"] (spLateB (TTs K) K (He.ga K "BadStays") (He.ga K "BadMany")) := ok_lateB FLateB GBeg gBeg FBeg.kp bBeg GCkOne gCkOne FCkOne.kp bCkOne GTold gTold FTold.kp bTold
  have GLatest : FnOk P w K mg base (L2.CX P w) 6 _ fdLatest ["stays", "many"] (spLatest (TTs K) K (He.ga K "BadStays") (He.ga K "BadMany")) := ok_latest FLatest GLat gLat FLat.kp bLat GCkOne gCkOne FCkOne.kp bCkOne GTold gTold FTold.kp bTold
  have GWay : FnOk P w K mg base (L2.CX P w) 6 _ fdWay ["stays", "many", "index"] (spWay (TTs K) K (He.ga K "BadStays") (He.ga K "BadMany") (He.ga K "BadIndex")) := ok_way FWay GBeg gBeg FBeg.kp bBeg GCkOne gCkOne FCkOne.kp bCkOne GCkIdx gCkIdx FCkIdx.kp bCkIdx GTold gTold FTold.kp bTold
  have GAddr : FnOk P w K mg base (L2.CX P w) 6 _ fdAddr ["stays", "late"] (spAddr (TTs K) K (He.ga K "BadStays") (He.ga K "BadDay")) := ok_addr FAddr GLat gLat FLat.kp bLat GNum gNum FNum.kp bNum EDay htop GTold gTold FTold.kp bTold
  have GLLate : FnOk P w K mg base CX0 4 _ fdLLate ["stays", "many"] (spLLate (TTs K)) := ok_llate FLLate le mx mi GOrd gOrd FOrd.kp bOrd
  have GLChain : FnOk P w K mg base CX0 1 _ fdLChain ["stays", "late", "index"] spLChain := ok_lchain FLChain le rg
  have GLWorst : FnOk P w K mg base CX0 1 _ fdLWorst ["stays", "late"] spLWorst := ok_lworst FLWorst mx zi
  have ME : MetK K mg (cls5 K) := ⟨gBadStays, D.eStays.xf, He.noat_ok (s.fact (mem_fa1 (by simp [fa1]))), gBadMany, D.eMany.xf, He.noat_ok (s.fact (mem_fa1 (by simp [fa1]))), gBadIndex, D.eIndex.xf, He.noat_ok (s.fact (mem_fa1 (by simp [fa1]))), gBadDay, D.eDay.xf, He.noat_ok (s.fact (mem_fa1 (by simp [fa1]))), He.exm_ok (s.fact (mem_fa1 (by simp [fa1]))), He.exm_ok (s.fact (mem_fa1 (by simp [fa1]))), He.exm_ok (s.fact (mem_fa1 (by simp [fa1]))), He.exm_ok (s.fact (mem_fa1 (by simp [fa1]))), He.exm_ok (s.fact (mem_fa1 (by simp [fa1]))), He.exm_ok (s.fact (mem_fa1 (by simp [fa1]))), He.exm_ok (s.fact (mem_fa1 (by simp [fa1]))), He.exm_ok (s.fact (mem_fa1 (by simp [fa1]))), He.exm_ok (s.fact (mem_fa1 (by simp [fa1]))), He.exm_ok (s.fact (mem_fa1 (by simp [fa1])))⟩
  obtain ⟨oLast, lLast, cLast⟩ := D.last
  have hsys : ∃ o, base.get? sysModules = some o := by
    obtain ⟨o, e⟩ := D.sys
    exact ⟨o, X _ _ e⟩
  have GRR : FnOk P w K mg base CX0 9 _ fdRR ["stream", "stays"] (spRef (TTs K)) := ok_refR (C := cls5 K) FRR T GDraw gDraw FDraw.kp bDraw GPick gPick FPick.kp bPick GOdd gOdd FOdd.kp bOdd GSame5 gSame FSame.kp bSame FMet bMet gMet ME GLateB gLateB FLateB.kp bLateB GLatest gLatest FLatest.kp bLatest GWay gWay FWay.kp bWay GAddr gAddr FAddr.kp bAddr gLLate lLast cLast TBRR hTRR mTRR
  have qB : KBn K fdLateB ["stays", "many"] 0 ["many", "stays"] (fun _ ws => ws.reverse) (fun _ zs => zs.reverse) := Fun.rev FLateB fun _ _ _ _ _ _ ws hl => bind_lateB ws hl
  have qLa : KBn K fdLatest ["stays", "many"] 0 ["many", "stays"] (fun _ ws => ws.reverse) (fun _ zs => zs.reverse) := Fun.rev FLatest fun _ _ _ _ _ _ ws hl => bind_latest ws hl
  have qWy : KBn K fdWay ["stays", "many", "index"] 0 ["index", "many", "stays"] (fun _ ws => ws.reverse) (fun _ zs => zs.reverse) := Fun.rev FWay fun _ _ _ _ _ _ ws hl => bind_way ws hl
  have qAd : KBn K fdAddr ["stays", "late"] 0 ["late", "stays"] (fun _ ws => ws.reverse) (fun _ zs => zs.reverse) := Fun.rev FAddr fun _ _ _ _ _ _ ws hl => bind_addr ws hl
  exact law_body (C := cls5 K) TD rp zi an le hsys GLStream gLStream FLStream.kp bLStream GDraw gDraw FDraw.kp bDraw GPick gPick FPick.kp bPick GLStays gLStays FLStays.kp bLStays GAsL gAsL FAsL.kp bAsL GRR gRR FRR.kp bRR GSame gSame FSame.kp bSame GLLate gLLate FLLate.kp bLLate GLChain gLChain FLChain.kp bLChain GLWorst gLWorst FLWorst.kp bLWorst GLateB gLateB FLateB.kp bLateB GLatest gLatest FLatest.kp GWay gWay FWay.kp GAddr gAddr FAddr.kp qB qLa qWy qAd hS hn tabs hr
end
end OB
namespace OB
open PySem PySem.Spec PyProof.Rows L2 LamX
/-- the law, called by the outermost caller behind the top -/
theorem law_call0 {P : Program} {w : World} {K : PySem.W.Frag} {mg mb : Str → Option Value} {fa a : Addr} {s₁ : Shared} {vs : List Value} {ns : List Int}
    (hP : file = P.main.file) (htop : (P.main.scope.names.lookup ("super" : Str)).isSome = false) (KX : K.In s₁.heap) (S : SaysK w s₁.heap K) (hmg : mg "law" = some (.ref fa))
    (nG : s₁.heap.Ns mainGlobals mg) (nB : s₁.heap.Ns builtinsNs mb) (hB : ∀ x : Str, x ≠ "__name__" → mb x = bootBuiltins x) (lim : s₁.heap.NoLimit) (ge : s₁.gens = #[])
    (bm : ∃ (m : Addr) (ob : Obj), mg "__builtins__" = some (.ref m) ∧ m ≠ builtinsNs ∧ s₁.heap.get? m = some ob ∧ ob.cls = .type "module" ∧ ob.dict = some builtinsNs ∧ ob.data = .plain)
    (ga : s₁.heap.get? a = some { cls := .type "list", data := .seq vs.toArray }) (iv : IntsAre vs ns) (hl : ns.length ≤ 63) :
    codeAny (model P w) callerA (.call (.ref fa) ⟨[.ref a], []⟩) (fun r s' => r = .ok (.ret (.bool true)) ∧ OldK s₁.heap s'.heap ∧ s'.os = s₁.os ∧ AllBare s'.gens) s₁ := by
  have mLaw : (("law" : Str), 40) ∈ fns := by simp [fns, fns1]
  have mt0 : (("by_begins" : Str), (none : Option Str)) ∈ tfs := (List.mem_cons_self ..)
  have mt1 : (("_law_order" : Str), (none : Option Str)) ∈ tfs := (List.mem_cons_of_mem _ (List.mem_cons_self ..))
  have mt2 : (("_law_refused_right" : Str), (none : Option Str)) ∈ tfs := (List.mem_cons_of_mem _ (List.mem_cons_of_mem _ (List.mem_cons_self ..)))
  have eL := He.glo_ok KX nG (S.fact (mem_fa0 mLaw))
  obtain ⟨oc, od, osl, kV, doc, pm, an, cdv, ct, lk, hcd⟩ := S.def_ (d := dFn ("law", 40)) (List.mem_append_left _ (List.mem_map.mpr ⟨_, mLaw, rfl⟩))
  have ef : fa = He.ga K "law" := Value.ref.inj (Option.some.inj (hmg.symm.trans eL))
  subst ef
  have each : ∀ {Q : Addr × Addr → Prop}, (∀ x : He.Defn, x ∈ tfs → Q (He.cT K x)) → ∀ p ∈ [pBy K, pOrd K, pRR K], Q p := fun h p m => by
    rcases List.mem_cons.mp m with z | m
    · rw [z]
      exact h _ mt0
    rcases List.mem_cons.mp m with z | m
    · rw [z]
      exact h _ mt1
    rw [List.mem_singleton.mp m]
    exact h _ mt2
  refine law_at (cs := [pBy K, pOrd K, pRR K]) (K := K) KX nG nB hB lim ge (each fun x m => S.empty _ m) (each fun x m => S.out _ m) (each fun x m => PySem.W.codeHd_of_K KX (S.hd _ m)) bm ga iv (Nat.le_trans hl (by decide)) fun base H KB G TB hT hS e0 => ?_
  have tabs0 : Tabs (TTs K) H := fun p m => by
    rcases List.mem_cons.mp m with z | m
    · rw [z]
      exact TabS.nil (hT _ (List.mem_cons_self ..))
    rcases List.mem_cons.mp m with z | m
    · rw [z]
      exact TabS.nil (hT _ (List.mem_cons_of_mem _ (List.mem_cons_self ..)))
    rw [List.mem_singleton.mp m]
    exact TabS.nil (hT _ (List.mem_cons_of_mem _ (List.mem_cons_of_mem _ (List.mem_cons_self ..))))
  refine run_ofS (CX := CX0) (k := 9) (N := Nlw) (ps := ["script"]) (us := [.ref a]) (vs := [.ref a]) (Q := fun v _ => v = .bl true) (E := fun _ _ _ => False) lk hcd scLaw room10 e0 (.of_eq rfl) (.cons rfl .nil) rfl fun hr => ?_
  obtain ⟨t, ht1, ht2⟩ := law_run (P := P) (w := w) hP htop S KB G (TB _ (List.mem_cons_self ..)) (TB _ (List.mem_cons_of_mem _ (List.mem_cons_self ..))) (TB _ (List.mem_cons_of_mem _ (List.mem_cons_of_mem _ (List.mem_cons_self ..)))) (fa := He.ga K "law") (cdv := cdv) (s₁ := s₁) hS (by omega) tabs0 hr
  exact ⟨t, ht1.nox, ht2⟩
end OB
namespace OB
open PySem PySem.W PySem.Calls PyProof.Rows
abbrev R : OpenRow := OpenLaw.row PySem.Challenge.rw_oldaddress_k68_whole_late_begins
abbrev qv : Program := view R.prog [40]
def names0 : List PySem.Str := ["__name__", "is_integer", "is_number", "is_from_one", "is_list", "first_wrong", "is_stay", "told_stays", "check_index", "by_begins", "check_from_one", "begins_and_causes", "latest_of", "late_begins", "latest", "in_the_way", "addresses_for"]
def names1 : List PySem.Str := ["AddressError", "BadStays", "BadMany", "BadIndex", "BadDay", "_law_stream", "_law_draw", "_law_pick", "_law_same", "_law_as_lists", "_law_stays", "_law_odd_stay", "_law_order", "_law_late", "_law_chain", "_law_worst", "_law_met", "_law_refused_right"]
def names : List PySem.Str := names0 ++ names1
def RunL : Prop := ∀ (w : World) (os : OsState), (HandSHeadRun.endF (HandSHeadRun.stepQ (HandSHeadRun.denQ HandSHeadRun.tabQ) R.prog w) 20000 R.prog w os).map (fun s => HandSHeadRun.looksF R.prog (boot_heap w.params) s.abs) = some true
def RunP {β : Type} (ob : SharedT → β) (v : World → β) : Prop := ∀ (w : World) (os : OsState), (HandSHeadRun.endF (HandSHeadRun.stepQ (HandSHeadRun.denQ HandSHeadRun.tabQ) R.prog w) 20000 R.prog w os).map ob = some (v w)
theorem both {β : Type} {ob : SharedT → β} {v : World → β} (h0 : ∀ (w : World) (os : OsState), (HandSHeadRun.endF (HandSHeadRun.stepQ (HandSHeadRun.denQ HandSHeadRun.tabQ) R.prog (w.withFollow "special-get-raises" false)) 20000 R.prog (w.withFollow "special-get-raises" false) os).map ob = some (v (w.withFollow "special-get-raises" false)))
    (h1 : ∀ (w : World) (os : OsState), (HandSHeadRun.endF (HandSHeadRun.stepQ (HandSHeadRun.denQ HandSHeadRun.tabQ) R.prog (w.withFollow "special-get-raises" true)) 20000 R.prog (w.withFollow "special-get-raises" true) os).map ob = some (v (w.withFollow "special-get-raises" true))) : RunP ob v := fun w =>
  byRow2 "special-get-raises" (P := fun w => ∀ os : OsState, (HandSHeadRun.endF (HandSHeadRun.stepQ (HandSHeadRun.denQ HandSHeadRun.tabQ) R.prog w) 20000 R.prog w os).map ob = some (v w)) h0 h1 w
end OB
namespace OB
open PySem PySem.W PySem.Calls PyProof.Rows
theorem runL0 (w : World) (os : OsState) : (HandSHeadRun.endF (HandSHeadRun.stepQ (HandSHeadRun.denQ HandSHeadRun.tabQ) R.prog (w.withFollow "special-get-raises" false)) 20000 R.prog (w.withFollow "special-get-raises" false) os).map (fun s => HandSHeadRun.looksF R.prog (boot_heap (w.withFollow "special-get-raises" false).params) s.abs) = some true := by
  kernel_rfl
theorem runL1 (w : World) (os : OsState) : (HandSHeadRun.endF (HandSHeadRun.stepQ (HandSHeadRun.denQ HandSHeadRun.tabQ) R.prog (w.withFollow "special-get-raises" true)) 20000 R.prog (w.withFollow "special-get-raises" true) os).map (fun s => HandSHeadRun.looksF R.prog (boot_heap (w.withFollow "special-get-raises" true).params) s.abs) = some true := by
  kernel_rfl
theorem runL : RunL := fun w => byRow2 "special-get-raises" (P := fun w => ∀ os : OsState, (HandSHeadRun.endF (HandSHeadRun.stepQ (HandSHeadRun.denQ HandSHeadRun.tabQ) R.prog w) 20000 R.prog w os).map (fun s => HandSHeadRun.looksF R.prog (boot_heap w.params) s.abs) = some true) runL0 runL1 w
end OB
namespace OB
open PySem PySem.W PySem.Calls PyProof.Rows
theorem runB : RunP (fun s => lkB (HandSHeadRun.getT s)) (fun _ => true) := both (fun w os => by kernel_rfl) (fun w os => by kernel_rfl)
end OB
namespace OB
open PySem PySem.W PySem.Calls PyProof.Rows
theorem runA : RunP (fun s => lkA (HandSHeadRun.getT s)) (fun _ => vA) := both (fun w os => by kernel_rfl) (fun w os => by kernel_rfl)
end OB
namespace OB
open PySem PySem.W PySem.Calls PyProof.Rows
theorem runC : RunP (fun s => lkC (HandSHeadRun.getT s)) (fun _ => vC) := both (fun w os => by kernel_rfl) (fun w os => by kernel_rfl)
end OB
namespace OB
open PySem PySem.W PySem.Calls PyProof.Rows
theorem runD : RunP (fun s => lkD (HandSHeadRun.getT s)) (fun _ => true) := both (fun w os => by kernel_rfl) (fun w os => by kernel_rfl)
end OB
namespace OB
open PySem PySem.W PySem.Calls PyProof.Rows
theorem runS : RunP (fun s => HandSHeadRun.seenQ qv names (importedModules R.prog.main.body) (fun s => xlAt qv [] s && recOk R.toRowW.records s) s.abs) (fun _ => openGood qv names) := both (fun w os => by kernel_rfl) (fun w os => by kernel_rfl)
end OB
namespace OB
open PySem PySem.W PySem.Calls PyProof.Rows
def hk : Hook where
  α := LookT
  obs s := lk s.heap.get?
  val w := vl w
  says w h := ∃ K : Frag, K.In h ∧ SaysK w h K
  of _ _ e := says_of e
  keeps _ _ _ s k := by
    obtain ⟨K, X, t⟩ := s
    exact ⟨K, PySem.W.Frag.In.keeps X k, t.keeps k⟩
def ob (s : SharedT) : LookT := (lkA (HandSHeadRun.getT s), (lkB (HandSHeadRun.getT s), (lkC (HandSHeadRun.getT s), lkD (HandSHeadRun.getT s))))
theorem ob_eq (s : SharedT) : ob s = hk.obs s.abs := by
  have e : HandSHeadRun.getT s = s.abs.heap.get? := funext (HandSHeadRun.getT_eq s)
  show (lkA (HandSHeadRun.getT s), (lkB (HandSHeadRun.getT s), (lkC (HandSHeadRun.getT s), lkD (HandSHeadRun.getT s)))) = _
  rw [e] <;> rfl
theorem map_pair {S A B : Type} {o : Option S} {f : S → A} {g : S → B} {a : A} {b : B} (h1 : o.map f = some a) (h2 : o.map g = some b) : o.map (fun s => (f s, g s)) = some (a, b) := by
  cases o with
  | none => cases h1
  | some s =>
    obtain rfl := Option.some.inj h1
    obtain rfl := Option.some.inj h2
    rfl
theorem run (w : World) : HandSHeadRun.RunEq R qv hk ob 20000 names w := fun os => map_pair (runL w os) (map_pair (runS w os) (map_pair (runA w os) (map_pair (runB w os) (map_pair (runC w os) (runD w os)))))
theorem file_ok : file = PySem.Challenge.rw_oldaddress_k68_whole_late_begins.prog.main.file := by kernel_rfl
theorem top_ok : (PySem.Challenge.rw_oldaddress_k68_whole_late_begins.prog.main.scope.names.lookup ("super" : PySem.Str)).isSome = false := by kernel_rfl
end OB
open PySem PySem.W PySem.Calls PyProof.Rows
theorem PySem.Challenge.cw_oldaddress_k68_whole_late_begins_holds : PySem.Challenge.rw_oldaddress_k68_whole_late_begins.Holds := by
  w_on; o_law
  refine HandSHeadRun.head_any (r := OpenLaw.row PySem.Challenge.rw_oldaddress_k68_whole_late_begins) (q := view (OpenLaw.row PySem.Challenge.rw_oldaddress_k68_whole_late_begins).prog [40]) (H := OB.hk) (ob := OB.ob) (M := 20000) (loose := OB.names) (d := HandSHeadRun.topDef (OpenLaw.row PySem.Challenge.rw_oldaddress_k68_whole_late_begins).prog 40) (kwd := []) OB.ob_eq
    (by kernel_rfl) (fun s => by kernel_rfl) OB.run (by kernel_rfl) (by kernel_rfl) (by kernel_rfl) (by rfl) (by first | assumption | decide +kernel) (by decide +kernel) ⟨rfl, rfl, rfl, rfl, rfl, by decide +kernel⟩ ?hw ?hc
  case hw => w_witness2
  case hc =>
    refine Att.attach_callB (l := PySem.Challenge.rw_oldaddress_k68_whole_late_begins) (n := 63) rfl (by kernel_rfl) fun w s₀ s₁ mg mb fa o pm cd doc a vs ns G Y ho hd hcd hmg0 hobj hints hlen hbits hg => ?_
    obtain ⟨K, KX, S⟩ := Y
    have hmg : mg ("law" : PySem.Str) = some (.ref fa) := by
      have e : (HandSHeadRun.topDef (OpenLaw.row PySem.Challenge.rw_oldaddress_k68_whole_late_begins).prog 40).name = ("law" : PySem.Str) := by kernel_rfl
      rw [← e]
      exact hmg0
    exact OB.law_call0 OB.file_ok OB.top_ok KX S hmg G.T.g G.T.b G.T.builtins G.T.nolimit hg G.T.bmain hobj hints (Nat.le_trans hlen (by decide))

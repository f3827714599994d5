import PyProof.Rows.All
import Wide.All
import OpenK.AllK
import Wide.FinOn
import KE.KExcSuper
import HandS.ForMost
import HandS.Exc
import HandS.ExcInit
import HandS.Wide
import HandS.Walk
import HandS.IsInst
import PyProof.IsiBase
import PyProof.IsiStr
import HandS.ForExc
import KE.GoesNew
import HandS.Iter
import HandS.Zip
import HandS.WordsExc
import HandS.More
import HandS.Strs
import HandS.CallLocal
import KE.GoesEnumKw
import HandS.SortInts
import HandS.Star
import HandS.Conv
import HandS.ListItems
import HandS.Set
import HandS.ExcField
import HandS.Lambda
import HandS.Defaults
import PyProof.ReprRoads
import KE.SortKeyHeap
import HandS.SortKw
import HandS.Keys
import HandS.SetKeys
import HandS.ExcOwn
import KE.KNestM
import HandS.HeadHook1
import HandS.HeadHook3
import HandS.HeadHook4
import HandS.EndTab
import KE.KStateDown
import Lean
import HandS.Head0
import HandS.Head1
import HandS.Head2
import Wide.Once
import PySem.Challenge.RW_oldaddress_k69_whole_marked_givings
set_option Elab.async false
set_option linter.all false
set_option maxRecDepth 100000
set_option maxHeartbeats 0
set_option exponentiation.threshold 5000
/-! An own error class called with positional arguments and with keywords. -/
namespace OE
open PySem PySem.W PySem.Calls PyProof.Rows PySem.HandSPX
section
variable {M : Model} {A : Around} {E : Value → Shared → Prop} {hp : Heap} {g : Array GenState} {d : Drawn} {t : Nat} {os : OsState}
variable {nm q : Str} {C N : Addr} {bs bm bmB : List Value} {hdct : Bool} {sn : List Str} {sub : List Value} {ab : Bool} {col : Option Bool} {dd : Option Addr} {k0 k1 k2 k3 k5 : Option Value} {B newId initId : String}
variable {xs : List Value} {kw : List (Str × Value)}
theorem chk_call {Q : Unit → Shared → Prop} (oC : hp.get? C = some (excClassObj nm q C N bs bm hdct sn sub ab col dd k0 k1 k2 k3 k5 newId)) (z : Q () ⟨hp, g, d, t, os⟩) : wpAny M A (checkBuiltinCall "type.__call__" ⟨.ref C :: xs, kw⟩) Q E ⟨hp, g, d, t, os⟩ := by
  have w3 := tc_sub
  have wT : (⟨hp, g, d, t, os⟩ : Shared).TypeIs (.ref C) "type" := ⟨_, oC, rfl⟩
  simp only [checkBuiltinCall, tc_kind, tc_split]
  repeat (any_goals (first | assumption | with_reducible refine wpAny_loadPart_at oC ?_ | with_reducible refine wpAny_onRaise ?_ | with_reducible refine wpAny_map ?_ | wp_step))
theorem chk_new (F : ExcBaseFacts B newId initId bmB) (hT : ∀ Y : String, bm.contains (.type Y) = bmB.contains (.type Y)) {Q : Unit → Shared → Prop}
    (oC : hp.get? C = some (excClassObj nm q C N bs bm hdct sn sub ab col dd k0 k1 k2 k3 k5 newId)) (z : Q () ⟨hp, g, d, t, os⟩) : wpAny M A (checkBuiltinCall newId ⟨.ref C :: xs, kw⟩) Q E ⟨hp, g, d, t, os⟩ := by
  have inB : (Value.ref C :: bm).contains (.type B) = true := by
    rw [List.contains_cons, hT, F.hasB]
    exact Bool.or_true _
  have w1 := F.noStar
  simp only [checkBuiltinCall, F.newKind, F.newSplit, F.newRow]
  repeat (first | refine wpAny_loadPart_at oC ?_ | (refine wpAny_isSubtype_exc oC ?_; rw [inB]) | refine wpAny_staticBase_exc oC ?_ | refine wpAny_madeBy_exc oC ?_ | simp only [bne_self_eq_false, Bool.false_eq_true, if_false] | wp_step)
  all_goals first | exact z | skip
end
end OE
namespace OE
open PySem PySem.W PySem.Calls PyProof.Rows PySem.HandSPX
section
variable {prog : Program} {w : World} {A : Around} {E : Value → Shared → Prop} {R : Result → Shared → Prop} {hp : Heap} {g : Array GenState} {d : Drawn} {t : Nat} {os : OsState}
variable {nm q : Str} {C N : Addr} {bs bm bmB : List Value} {hdct : Bool} {sn : List Str} {sub : List Value} {ab : Bool} {col : Option Bool} {dd : Option Addr} {k0 k1 k2 k3 k5 : Option Value} {B newId initId : String}
variable {xs : List Value} {kw : List (Str × Value)}
/-- the heap behind __new__ -/
abbrev newHp (hp : Heap) (C : Addr) (xs : List Value) : Heap := (hp.push (W.kdv_tup xs)).push (excO C hp.objs.size)
theorem run_new (F : ExcBaseFacts B newId initId bmB) (hT : ∀ Y : String, bm.contains (.type Y) = bmB.contains (.type Y)) (oC : hp.get? C = some (excClassObj nm q C N bs bm hdct sn sub ab col dd k0 k1 k2 k3 k5 newId)) (hl : xs.length ≤ sizeLine)
    (z : R (.ok (.ret (.ref (hp.objs.size + 1)))) ⟨newHp hp C xs, g, d, t, os⟩) : codeAny (model prog w) A (.builtin newId ⟨.ref C :: xs, kw⟩) R ⟨hp, g, d, t, os⟩ := by
  have w1 := F.ends
  have inB : (Value.ref C :: bm).contains (.type B) = true := by
    rw [List.contains_cons, hT, F.hasB]
    exact Bool.or_true _
  have notA : (Value.ref C :: bm).contains (.type "AttributeError") = false := by rw [List.contains_cons, hT, F.noAttr] <;> rfl
  have notN : (Value.ref C :: bm).contains (.type "NameError") = false := by rw [List.contains_cons, hT, F.noName] <;> rfl
  refine codeAny_builtinAt F.entry ?_
  unfold Builtin.«BaseException.__new__»
  refine _root_.PySem.wpAt_bind ?_; show _root_.PySem.wpAt _ _ _ (stack >>= _) _ _ _
  refine _root_.PySem.wpAt_bind (_root_.PySem.wpAt_stack fun p l => _root_.PySem.wpAt_of_wpAny ?_)
  wp_walk
  refine _root_.PySem.wpAt_of_wpAny ?_
  rw [F.owner]
  repeat (first | with_reducible refine wpAny_madeHere_exc F.canon oC ?_ | with_reducible refine wpAny_loadPart_at oC ?_ | (with_reducible refine wpAny_isSubtype_exc oC ?_; first | rw [inB] | rw [notA] | rw [notN]) | wp_step)
  show R _ _
  rw [Heap.size_push]
  exact z
theorem run_typeCall {fI : Addr} {Q : Fin → Shared → Prop} (F : ExcBaseFacts B newId initId bmB) (hT : ∀ Y : String, bm.contains (.type Y) = bmB.contains (.type Y)) (oC : hp.get? C = some (excClassObj nm q C N bs bm hdct sn sub ab col dd k0 k1 k2 k3 k5 newId)) (hl : xs.length ≤ sizeLine)
    (li : W.Looks (model prog w) hp (typeLookup (.ref C) "__init__") (some (.ref fI))) (lb : ∀ self, W.Looks (model prog w) hp (bindSpecial (.ref fI) self) (.ref fI, [self]))
    (z : codeAny (model prog w) A (.call (.ref fI) ⟨.ref (hp.objs.size + 1) :: xs, kw⟩) (fun r s' => match r with | .ok (.ret v) => v = .none ∧ Q (.done (.ret (.ref (hp.objs.size + 1)))) s' | .ok _ => False | .error e => E e s') ⟨newHp hp C xs, g, d, t, os⟩) :
    wpAny (model prog w) A (Builtin.«type.__call__» ⟨.ref C :: xs, kw⟩) Q E ⟨hp, g, d, t, os⟩ := by
  repeat (first | with_reducible refine wpAny_loadPart_at oC ?_ | with_reducible refine wpAny_madeBy_exc oC ?_ | wp_step)
  refine codeAny_call_builtin_code (Code.quiet_builtin _ F.quiet) (chk_new F hT oC (run_new F hT oC hl ?_))
  show wpAny _ _ _ _ _ _
  have kp : ∀ b o, hp.get? b = some o → (newHp hp C xs).get? b = some o := fun b o e => Heap.get?_push_of_some _ (Heap.get?_push_of_some _ e)
  have oC' := kp _ _ oC
  have ox : (newHp hp C xs).get? (hp.objs.size + 1) = some (excO C hp.objs.size) := by heap_get
  have inC : (Value.ref C :: bm).contains (.ref C) = true := by simp
  have li' := li.keeps kp
  have lb' := (lb (.ref (hp.objs.size + 1))).keeps kp
  unfold isInstance
  repeat (first | with_reducible refine wpAny_loadPart_at ox ?_ | (with_reducible refine wpAny_isSubtype_exc oC' ?_; rw [inC]) | wp_step)
  show wpAny _ _ (typeLookup (.ref C) _) _ _ _
  refine li'.at (wpAny_holding (wpAny_bind (lb'.at (wpAny_bind (wpAny_call (codeAny_mono z fun r s' y => ?_))))))
  cases r with
  | error e => exact y
  | ok fl =>
    cases fl with
    | ret v =>
      have y' : v = .none ∧ Q (.done (.ret (.ref (hp.objs.size + 1)))) s' := y
      obtain ⟨e0, y2⟩ := y'
      subst e0
      first | exact wpAny_pure (wpAny_pure y2) | (wp_walk; try exact y2)
    | next => exact (show False from y).elim
    | brk => exact (show False from y).elim
    | cont => exact (show False from y).elim
/-- C(*xs, **kw) of an own error class with an own __init__ -/
theorem call_any {fI : Addr} (F : ExcBaseFacts B newId initId bmB) (hT : ∀ Y : String, bm.contains (.type Y) = bmB.contains (.type Y)) (oC : hp.get? C = some (excClassObj nm q C N bs bm hdct sn sub ab col dd k0 k1 k2 k3 k5 newId)) (hl : xs.length ≤ sizeLine)
    (li : W.Looks (model prog w) hp (typeLookup (.ref C) "__init__") (some (.ref fI))) (lb : ∀ self, W.Looks (model prog w) hp (bindSpecial (.ref fI) self) (.ref fI, [self]))
    (z : codeAny (model prog w) (A.under (.builtin "type.__call__" ⟨.ref C :: xs, kw⟩)) (.call (.ref fI) ⟨.ref (hp.objs.size + 1) :: xs, kw⟩) (W.InitBack (hp.objs.size + 1) R) ⟨newHp hp C xs, g, d, t, os⟩) :
    codeAny (model prog w) A (.call (.ref C) ⟨xs, kw⟩) R ⟨hp, g, d, t, os⟩ := by
  have w1 := tc_lookup
  have w2 := tc_bind (.ref C)
  have wT : (⟨hp, g, d, t, os⟩ : Shared).TypeIs (.ref C) "type" := ⟨_, oC, rfl⟩
  refine codeAny_of_tree ?_; show wpAny _ _ (callAny (.ref C) _) _ _ _
  repeat (any_goals (first | assumption | with_reducible refine wpAny_loadPart_at oC ?_ | wp_step))
  refine ⟨rfl, codeAny_call_builtin_at (Code.quiet_builtin _ (by decide +kernel)) entry_typeCall (chk_call oC (run_typeCall F hT oC hl li lb (codeAny_mono z fun r s' y => ?_)))⟩
  rcases r with e | (v | _ | _ | _) <;> exact y
end
end OE
/-! An own error class over an own class over ValueError, whose __init__ says super().__init__(text) and keeps one thing. -/
namespace OE
open PySem PySem.W PySem.Calls PyProof.Rows PySem.HandSPX
/-! ### the text of __init__ -/
def eA (f : Str) (p1 p2 : Pos) : Arguments := { posonlyargs := [], args := [{ arg := "self", annotation := none, pos := p1 }, { arg := f, annotation := none, pos := p2 }], vararg := none, kwonlyargs := [], kw_defaults := [], kwarg := none, defaults := [] }
def eB0 (tx : Str) (a b c d e e' : Pos) : Stmt := .Expr (.Call (.Attribute (.Call (.Name "super" a) [] [] b) "__init__" c) [.Constant (.str tx) 0 d] [] e) e'
def eB1 (f : Str) (g h i j : Pos) : Stmt := .Assign [.Attribute (.Name "self" g) f h] (.Name f i) j
def eS (f : Str) : Scope := { kind := .function, names := [(PySem.Str.ofString "self", .local), (f, .local), (PySem.Str.ofString "__class__", .free), (PySem.Str.ofString "super", .globalImplicit)], isGenerator := false, isCoroutine := false, more := [] }
/-- what the written part says of the class at C, and of its __init__, at fI -/
structure Cl1 (P : Program) (K : Frag) (C fI : Addr) (f : Str) : Prop where
  cls : ∃ nm q N bs bm sn sub ab col dd k0 k1 k2 k3 k5, K.lookup C = some (excClassObj nm q C N bs bm true sn sub ab col dd k0 k1 k2 k3 k5 "ValueError.__new__") ∧ refsVE bm = true
  sa : findIn K (.ref C) "__setattr__" = some (some (.builtin "object.__setattr__"))
  noF : findIn K (.ref C) f = some none
  iC : findIn K (.ref C) "__init__" = some (some (.ref fI))
  tC : typeIn K (.ref fI) = some (.type "function")
  sup : ks_superIn K C C "__init__" = some (some (.builtin "ValueError.__init__"))
  sub : mroIn K C (.ref C) = some true
  exI : excInitIn K C [.type "ValueError", .type "Exception", .type "BaseException", .type "object"] "ValueError.__new__" = true
  subV : subIn K (.ref C) (.type "ValueError") = some true
  opq : nsIn K cStatics "thirdparty.any" = some none
  spr : nsIn K mainGlobals "super" = some none
  fn : ∃ (oc : Value) (od : Option Addr) (doc pm : Value) (an : Option Addr) (ct : Value) (osl : Array (Option Value)) (p1 p2 : Pos) (tx : Str) (a b c d e e' g h i j : Pos) (qual : Str) (cc cda : Addr) (vs : Array Value) (file : Str) (tf : Tok) (ccl cl : Value) (cdd cld : Option Addr) (ccs csl : Array (Option Value)),
    K.lookup fI = some ⟨oc, od, .func (fnX "__init__" qual (eA f p1 p2) [eB0 tx a b c d e e', eB1 f g h i j] (eS f) [("__class__", cc)] .none .none doc pm an (.ref cda) ct), osl⟩ ∧ codeIn K (.ref cda) qual = true ∧
    (c.endLine == e.line) = true ∧ K.lookup cda = some ⟨ccl, cdd, .fields vs, ccs⟩ ∧ vs[2]? = some (.str file tf) ∧ ((P.main.file : Str) == file) = true ∧ K.lookup cc = some ⟨cl, cld, .cell (some (.ref C)), csl⟩
  fok : (f == ("self" : Str)) = false ∧ (f == ("__class__" : Str)) = false ∧ (f == ("super" : Str)) = false ∧ (f == ("__debug__" : Str)) = false
theorem he_of {env : Env} {o : Expr} {x tx : Str} {c d e : Pos} (hl : (c.endLine == e.line) = true) :
    eval (.Call (.Attribute o x c) [.Constant (.str tx) 0 d] [] e) env = (do
        let ov ← attributeBase o x env (eval o env)
        standAt c.atName
        let (f, first) ← holding [ov] (getMethod ov x (do return (← importBound o env).getD true))
        callWith e f first (backTo e (starEach [.Constant (.str tx) 0 d] env)) []) := by
  have hpos : methodCallPos true o env c e = pure e := by unfold methodCallPos; simp [hl]
  have hform : methodCallForm ([Expr.Constant (.str tx) 0 d].length + ([] : List Keyword).length) (backTo e (starEach [.Constant (.str tx) 0 d] env)) (backToKw e (keywordEach [] env)) = true := by rfl
  rw [arm_eval_Call]
  unfold methodCall
  rw [hform, hpos]
  rfl
/-- what __init__ leaves of a fresh exception at x -/
structure InitEnd (h h' : Heap) (x C dx t1 : Addr) (f : Str) (v : Value) : Prop where
  keep : ∀ b o, b ≠ x → h.get? b = some o → h'.get? b = some o
  obj : h'.get? x = some { cls := .ref C, dict := some dx, data := .fields #[.ref t1, .none, .none, .none, .bool false, .none] }
  dbig : h.objs.size ≤ dx
  dne : dx ≠ x
  ns : h'.Ns1 dx (fun y => if y = f then some v else none)
section
variable {P : Program} {w : World} {A : Around} {E : Value → Shared → Prop} {R : Result → Shared → Prop} {s : Shared} {K : Frag} {mg mb : Str → Option Value} {C fI : Addr} {f : Str}
theorem init1 (T : Cl1 P K C fI f) {x t0 : Addr} {v : Value} {args : Args} (X : K.In s.heap) (hg : s.heap.Ns mainGlobals mg) (hb : s.heap.Ns builtinsNs mb) (hbi : ∀ x : Str, x ≠ "__name__" → mb x = bootBuiltins x) (htop : (P.main.scope.names.lookup ("super" : Str)).isSome = false)
    (hlim : s.heap.NoLimit) (hx : s.heap.get? x = some (excO C t0)) (hnx : K.lookup x = none) (hroom : A.depth < recursionLimit)
    (hbind : ∀ fd : FuncData, (∃ p1 p2, fd.params = eA f p1 p2) → fd.defaults = .none → fd.kwdefaults = .none → BindsTo s fd args [("self", .ref x), (f, v)])
    (hq : ∀ h' tk dx t1, InitEnd s.heap h' x C dx t1 f v → R (.ok (.ret .none)) { s with heap := h', toks := tk }) :
    codeAny (model P w) A (.call (.ref fI) args) R s := by
  obtain ⟨oc, od, doc, pm, an, ct, osl, p1, p2, tx, a, b, c, d, e, e', g, h, i, j, qual, cc, cda, vs, file, tf, ccl, cl, cdd, cld, ccs, csl, ho, hcd, hline, hcode, hvs, hfile, hcell⟩ := T.fn
  obtain ⟨nm, q, N, bs, bm, sn, sub, ab, col, dd, k0, k1, k2, k3, k5, hC, hbm⟩ := T.cls
  obtain ⟨n1, n2, n3, n4⟩ := T.fok
  have hcl : clsIn K C = some { name := nm, bases := bs, mro := .ref C :: bm, ns := N, qualname := q, hasDict := true, slotNames := sn, subclasses := sub, abstract := ab, collection := col, hasDel := false } := by unfold clsIn; rw [hC] <;> rfl
  have lself : (eS f).names.lookup ("self" : Str) = some .local := by simp [eS, List.lookup]
  have lf : (eS f).names.lookup f = some .local := by simp [eS, List.lookup, n1]
  have lsup : (eS f).names.lookup ("super" : Str) = some .globalImplicit := by
    have z : (("super" : Str) == f) = false := by rw [beq_eq_false_iff_ne]; intro q; rw [← q] at n3; exact absurd n3 (by decide +kernel)
    have z1 : (("super" : Str) == PySem.Str.ofString "self") = false := by decide +kernel
    have z2 : (("super" : Str) == PySem.Str.ofString "__class__") = false := by decide +kernel
    simp [eS, List.lookup, z, z1, z2]
  have lcls : (eS f).names.lookup ("__class__" : Str) = some .free := by
    have z : (("__class__" : Str) == f) = false := by rw [beq_eq_false_iff_ne]; intro q; rw [← q] at n2; exact absurd n2 (by decide +kernel)
    have z1 : (("__class__" : Str) == PySem.Str.ofString "self") = false := by decide +kernel
    simp [eS, List.lookup, z, z1]
  have n1' : (("self" : Str) == f) = false := by rw [beq_eq_false_iff_ne]; exact fun q => (beq_eq_false_iff_ne.mp n1) q.symm
  have e1 : ([("self", Value.ref x), (f, v)] : List (Str × Value)).reverse.lookup ("self" : Str) = some (Value.ref x) := by simp [List.lookup, n1']
  have e2 : ([("self", Value.ref x), (f, v)] : List (Str × Value)).reverse.lookup f = some v := by simp [List.lookup]
  refine ks_codeAny_call_defAt (fd := fnX "__init__" qual (eA f p1 p2) [eB0 tx a b c d e e', eB1 f g h i j] (eS f) [("__class__", cc)] .none .none doc pm an (.ref cda) ct) (body := [eB0 tx a b c d e e', eB1 f g h i j]) (binds := [("self", .ref x), (f, v)])
    hroom (X _ _ ho) rfl hlim (codeRec_of X hcd) rfl (hbind _ ⟨_, _, rfl⟩ rfl rfl) ?_ ?_ (fun h₁ hns hk₁ => ?_)
  · intro y hy
    have z : (eS f).names = [(PySem.Str.ofString "self", .local), (f, .local), (PySem.Str.ofString "__class__", .free), (PySem.Str.ofString "super", .globalImplicit)] := rfl
    rw [show (fnX "__init__" qual (eA f p1 p2) [eB0 tx a b c d e e', eB1 f g h i j] (eS f) [("__class__", cc)] .none .none doc pm an (.ref cda) ct).scope.names = _ from z] at hy
    simp only [List.mem_cons, List.not_mem_nil, or_false] at hy
    rcases hy with rfl | rfl | rfl | rfl <;> exact fun z => nomatch z
  · intro y hy
    simp only [List.mem_cons, List.not_mem_nil, or_false] at hy
    rcases hy with rfl | rfl
    · exact lself
    · exact lf
  have X₁ : K.In h₁ := X.keeps hk₁
  have hx₁ := hk₁ _ _ hx
  have hxL : s.heap.objs.size ≠ x := Nat.ne_of_gt (Heap.lt_size hx)
  obtain ⟨hp, gs, dr, tk, os⟩ := s
  refine ks_wpAt_execs_cons ?_
  show _root_.PySem.wpAt _ _ _ (exec (.Expr (.Call (.Attribute (.Call (.Name "super" a) [] [] b) "__init__" c) [.Constant (.str tx) 0 d] [] e) e') _) _ _ _
  refine ks_wpAt_Expr_any ?_ (by rfl) (by rfl)
  refine ks_wpAt_MethodCall (pl := (do return (← importBound (.Call (.Name "super" a) [] [] b) (callEnv (fnX "__init__" qual (eA f p1 p2) [eB0 tx a b c d e e', eB1 f g h i j] (eS f) [("__class__", cc)] .none .none doc pm an (.ref cda) ct) hp.objs.size fI)).getD true)) ?_ (he_of hline)
  have hClo : h₁.get? C = some _ := X₁ _ _ hC
  -- super()
  refine ks_wpAt_super_base (env := callEnv (fnX "__init__" qual (eA f p1 p2) [eB0 tx a b c d e e', eB1 f g h i j] (eS f) [("__class__", cc)] .none .none doc pm an (.ref cda) ct) hp.objs.size fI) lsup lcls (by decide +kernel) rfl (X₁ _ _ ho) rfl rfl rfl (X₁ _ _ hcode) rfl hvs hfile htop ?_
  refine ks_loadName_global rfl lsup (loadGlobal_builtin (env := callEnv (fnX "__init__" qual (eA f p1 p2) [eB0 tx a b c d e e', eB1 f g h i j] (eS f) [("__class__", cc)] .none .none doc pm an (.ref cda) ct) hp.objs.size fI) (hg.keeps hk₁) (mg_none_of X hg T.spr) (hb.keeps hk₁) ((hbi _ (by decide +kernel)).trans (by decide +kernel)) ⟨rfl, ?_⟩)
  refine wpAny_loadName_free rfl lcls rfl ⟨_, X₁ _ _ hcell, rfl⟩ ?_
  refine wpAny_loadName_local (v := .ref x) rfl lself hns e1 ?_
  refine ks_wpAny_isType_cls hClo rfl ⟨rfl, ?_⟩
  refine ks_wpAny_call_super hClo rfl hx₁ rfl (fun c e => nomatch e) (looks_mroIn X₁ T.sub) (fun h₂ hso k₂ => ?_)
  have X₂ : K.In h₂ := X₁.keeps k₂
  have hx₂ := k₂ _ _ hx₁
  have I₂ : InstAt h₂ x (excO C t0) C none := ⟨hx₂, rfl, rfl, trivial⟩
  have hxC : x ≠ C := fun z => by rw [z, hC] at hnx; cases hnx
  -- .__init__
  refine kxs_getMethod kxs_ValueError hso (looks_opaque X₂ T.opq) (l₀ := .ref C :: bm) (l := ((Value.ref C :: bm).dropWhile (· != .ref C)).drop 1) (fun A Q E s k q => wpAny_bind ((looks_clsIn X₂ hcl) A _ E s k (wpAny_pure q))) rfl X₂ ?_ (I₂.type.andThen (looks_subIn X₂ T.subV)) hxC (by decide +kernel) ?_
  · have z := T.sup
    unfold ks_superIn at z
    rw [hcl] at z
    exact z
  -- its call
  show wpAny _ _ (callWith e (.ref h₂.objs.size) [] (backTo e (starEach [.Constant (.str tx) 0 d] _)) []) _ _ _
  have hso₃ : (h₂.push (kxs_mw "ValueError.__init__" x)).get? h₂.objs.size = some (kxs_mw "ValueError.__init__" x) := Heap.get?_push_at rfl rfl
  have hx₃ : (h₂.push (kxs_mw "ValueError.__init__" x)).get? x = some (excO C t0) := Heap.get?_push_of_some _ hx₂
  refine kxs_callWith (i := "ValueError.__init__") (x := x) rfl (evalArgs_plain (spliced_cons (Calls.Constant_str (pos := d) (k := 0) (spliced_nil ⟨hso₃, ?_⟩))))
  show wpAny _ _ (call (.ref h₂.objs.size) [_]) _ _ _
  -- all that stood at the entry but x is the base of the walk
  have hb0 : ∀ y o, hp.get? y = some o → y ≠ x → (hideAll hp [x]).get? y = some o := fun y o z n => hideAll_get _ z (by simpa using n)
  have hb1 : ∀ y o, (hideAll hp [x]).get? y = some o → hp.get? y = some o ∧ y ≠ x := fun y o z => ⟨of_hideAll _ z, fun q => by rw [q, hideAll_none _ (by simp)] at z; cases z⟩
  have X0 : K.In (hideAll hp [x]) := fun y o z => hb0 y o (X y o z) fun q => by rw [q, hnx] at z; cases z
  have k₃ : ∀ y o, h₁.get? y = some o → (h₂.push (kxs_mw "ValueError.__init__" x)).get? y = some o := fun y o z => Heap.get?_push_of_some _ (k₂ y o z)
  have F₃ : Fr (hideAll hp [x]) hp.objs.size (h₂.push (kxs_mw "ValueError.__init__" x)) _ := ⟨hns.at fun o q => k₃ _ o q, fun y o z => k₃ y o (hk₁ y o (hb1 y o z).1), by rw [hideAll_size]; exact Nat.le_refl _⟩
  have n2 : ∀ y, hp.objs.size ≤ y → (hideAll hp [x]).get? y = none := fun y n => by
    cases z : (hideAll hp [x]).get? y with
    | none => rfl
    | some o => exact absurd (Heap.lt_size (hb1 y o z).1) (Nat.not_lt.mpr n)
  have l2 : hp.objs.size < h₂.objs.size := Heap.lt_size (k₂ _ _ hns.choose_spec.choose_spec.choose_spec.1)
  have ux : h₂.objs.size ≠ x := fun q => absurd (Heap.lt_size hx) (by rw [← q]; exact Nat.not_lt.mpr (Nat.le_of_lt l2))
  have N₃ : News (hideAll hp [x]) hp.objs.size (h₂.push (kxs_mw "ValueError.__init__" x)) [(h₂.objs.size, kxs_mw "ValueError.__init__" x), (x, excObj C t0 none .none)] := by
    intro p hp'
    rcases List.mem_cons.mp hp' with rfl | hp'
    · exact ⟨hso₃, Nat.ne_of_gt l2, n2 _ (Nat.le_of_lt l2)⟩
    · obtain rfl := List.mem_singleton.mp hp'
      exact ⟨hx₃, hxL.symm, hideAll_none _ (by simp)⟩
  refine kxs_call (i := "ValueError.__init__") (c2 := .none) F₃ X0 N₃ F.excBase_ValueError T.exI (List.mem_cons_self ..) (.tail ux (.head (fun p hp => nomatch hp))) (by show 1 ≤ sizeLine; rw [sizeLine_eq]; decide) (fun t1 h₄ F₄ N₄ _ => ?_)
  have hx₄ : h₄.get? x = some (excO C t1) := (N₄ (x, excObj C t1 none .none) (by simp)).1
  have kk : ∀ b o, b ≠ x → hp.get? b = some o → h₄.get? b = some o := fun b o n z => F₄.keep b o (hb0 b o z n)
  -- self.f = f
  refine ks_wpAt_execs_cons (_root_.PySem.wpAt_of_wpAny ?_)
  have X₄ : K.In h₄ := X0.keeps F₄.keep
  have hns₄ : h₄.Ns hp.objs.size _ := F₄.ns
  show wpAny _ _ (exec (.Assign [.Attribute (.Name "self" g) f h] (.Name f i) j) _) _ _ _
  refine plainObj_wpAny_Assign_Attribute (wpAny_Name (wpAny_loadName_local (v := v) rfl lf hns₄ e2 (wpAny_Name (wpAny_loadName_local (v := .ref x) rfl lself hns₄ e1 ?_) (by decide +kernel))) n4) (by rfl)
  refine set_plain X₄ (ox := excO C t1) (od := none) ⟨hx₄, rfl, rfl, trivial⟩ T.sa ?_
  refine exc_osa X₄ hx₄ hcl (show refsVE (.ref C :: bm) = true from hbm) rfl T.noF (fun h₅ tk₅ dx k₅ dn dne hx₅ hn₅ => ?_)
  refine _root_.PySem.wpAt_of_wpAny (wpAny_execs_nil (hq h₅ tk₅ dx t1 ⟨fun b o n z => k₅ b o n (kk b o n z), hx₅, Nat.le_of_lt (Nat.lt_of_lt_of_le hns₄.lt dn), dne, hn₅⟩))
end
end OE
/-! The same without a field: __init__(self) with super().__init__(text). -/
namespace OE
open PySem PySem.W PySem.Calls PyProof.Rows PySem.HandSPX
def eA0 (p1 : Pos) : Arguments := { posonlyargs := [], args := [{ arg := "self", annotation := none, pos := p1 }], vararg := none, kwonlyargs := [], kw_defaults := [], kwarg := none, defaults := [] }
def eS0 : Scope := { kind := .function, names := [(PySem.Str.ofString "self", .local), (PySem.Str.ofString "__class__", .free), (PySem.Str.ofString "super", .globalImplicit)], isGenerator := false, isCoroutine := false, more := [] }
/-- what the written part says of the class at C, and of its __init__, at fI -/
structure Cl0 (P : Program) (K : Frag) (C fI : Addr) : Prop where
  cls : ∃ nm q N bs bm sn sub ab col dd k0 k1 k2 k3 k5, K.lookup C = some (excClassObj nm q C N bs bm true sn sub ab col dd k0 k1 k2 k3 k5 "ValueError.__new__") ∧ refsVE bm = true
  iC : findIn K (.ref C) "__init__" = some (some (.ref fI))
  tC : typeIn K (.ref fI) = some (.type "function")
  sup : ks_superIn K C C "__init__" = some (some (.builtin "ValueError.__init__"))
  sub : mroIn K C (.ref C) = some true
  exI : excInitIn K C [.type "ValueError", .type "Exception", .type "BaseException", .type "object"] "ValueError.__new__" = true
  subV : subIn K (.ref C) (.type "ValueError") = some true
  opq : nsIn K cStatics "thirdparty.any" = some none
  spr : nsIn K mainGlobals "super" = some none
  fn : ∃ (oc : Value) (od : Option Addr) (doc pm : Value) (an : Option Addr) (ct : Value) (osl : Array (Option Value)) (p1 : Pos) (tx : Str) (a b c d e e' : Pos) (qual : Str) (cc cda : Addr) (vs : Array Value) (file : Str) (tf : Tok) (ccl cl : Value) (cdd cld : Option Addr) (ccs csl : Array (Option Value)),
    K.lookup fI = some ⟨oc, od, .func (fnX "__init__" qual (eA0 p1) [eB0 tx a b c d e e'] eS0 [("__class__", cc)] .none .none doc pm an (.ref cda) ct), osl⟩ ∧ codeIn K (.ref cda) qual = true ∧
    (c.endLine == e.line) = true ∧ K.lookup cda = some ⟨ccl, cdd, .fields vs, ccs⟩ ∧ vs[2]? = some (.str file tf) ∧ ((P.main.file : Str) == file) = true ∧ K.lookup cc = some ⟨cl, cld, .cell (some (.ref C)), csl⟩
section
variable {P : Program} {w : World} {A : Around} {E : Value → Shared → Prop} {R : Result → Shared → Prop} {s : Shared} {K : Frag} {mg mb : Str → Option Value} {C fI : Addr}
theorem init0 (T : Cl0 P K C fI) {x t0 : Addr} {args : Args} (X : K.In s.heap) (hg : s.heap.Ns mainGlobals mg) (hb : s.heap.Ns builtinsNs mb) (hbi : ∀ x : Str, x ≠ "__name__" → mb x = bootBuiltins x) (htop : (P.main.scope.names.lookup ("super" : Str)).isSome = false)
    (hlim : s.heap.NoLimit) (hx : s.heap.get? x = some (excO C t0)) (hnx : K.lookup x = none) (hroom : A.depth < recursionLimit)
    (hbind : ∀ fd : FuncData, (∃ p1, fd.params = eA0 p1) → fd.defaults = .none → fd.kwdefaults = .none → BindsTo s fd args [("self", .ref x)])
    (hq : ∀ h' tk t1, (∀ b o, b ≠ x → s.heap.get? b = some o → h'.get? b = some o) → h'.get? x = some (excO C t1) → R (.ok (.ret .none)) { s with heap := h', toks := tk }) :
    codeAny (model P w) A (.call (.ref fI) args) R s := by
  obtain ⟨oc, od, doc, pm, an, ct, osl, p1, tx, a, b, c, d, e, e', qual, cc, cda, vs, file, tf, ccl, cl, cdd, cld, ccs, csl, ho, hcd, hline, hcode, hvs, hfile, hcell⟩ := T.fn
  obtain ⟨nm, q, N, bs, bm, sn, sub, ab, col, dd, k0, k1, k2, k3, k5, hC, hbm⟩ := T.cls
  have hcl : clsIn K C = some { name := nm, bases := bs, mro := .ref C :: bm, ns := N, qualname := q, hasDict := true, slotNames := sn, subclasses := sub, abstract := ab, collection := col, hasDel := false } := by unfold clsIn; rw [hC] <;> rfl
  have lself : eS0.names.lookup ("self" : Str) = some .local := by decide +kernel
  have lsup : eS0.names.lookup ("super" : Str) = some .globalImplicit := by decide +kernel
  have lcls : eS0.names.lookup ("__class__" : Str) = some .free := by decide +kernel
  have e1 : ([("self", Value.ref x)] : List (Str × Value)).reverse.lookup ("self" : Str) = some (Value.ref x) := by simp [List.lookup]
  refine ks_codeAny_call_defAt (fd := fnX "__init__" qual (eA0 p1) [eB0 tx a b c d e e'] eS0 [("__class__", cc)] .none .none doc pm an (.ref cda) ct) (body := [eB0 tx a b c d e e']) (binds := [("self", .ref x)])
    hroom (X _ _ ho) rfl hlim (codeRec_of X hcd) rfl (hbind _ ⟨_, rfl⟩ rfl rfl) ?_ ?_ (fun h₁ hns hk₁ => ?_)
  · intro y hy
    have z : eS0.names = [(PySem.Str.ofString "self", .local), (PySem.Str.ofString "__class__", .free), (PySem.Str.ofString "super", .globalImplicit)] := rfl
    rw [show (fnX "__init__" qual (eA0 p1) [eB0 tx a b c d e e'] eS0 [("__class__", cc)] .none .none doc pm an (.ref cda) ct).scope.names = _ from z] at hy
    simp only [List.mem_cons, List.not_mem_nil, or_false] at hy
    rcases hy with rfl | rfl | rfl <;> exact fun z => nomatch z
  · intro y hy
    simp only [List.mem_cons, List.not_mem_nil, or_false] at hy
    subst hy
    exact lself
  have X₁ : K.In h₁ := X.keeps hk₁
  have hx₁ := hk₁ _ _ hx
  have hxL : s.heap.objs.size ≠ x := Nat.ne_of_gt (Heap.lt_size hx)
  obtain ⟨hp, gs, dr, tk, os⟩ := s
  refine ks_wpAt_execs_cons ?_
  show _root_.PySem.wpAt _ _ _ (exec (.Expr (.Call (.Attribute (.Call (.Name "super" a) [] [] b) "__init__" c) [.Constant (.str tx) 0 d] [] e) e') _) _ _ _
  refine ks_wpAt_Expr_any ?_ (by rfl) (by rfl)
  refine ks_wpAt_MethodCall (pl := (do return (← importBound (.Call (.Name "super" a) [] [] b) (callEnv (fnX "__init__" qual (eA0 p1) [eB0 tx a b c d e e'] eS0 [("__class__", cc)] .none .none doc pm an (.ref cda) ct) hp.objs.size fI)).getD true)) ?_ (he_of hline)
  have hClo : h₁.get? C = some _ := X₁ _ _ hC
  -- super()
  refine ks_wpAt_super_base (env := callEnv (fnX "__init__" qual (eA0 p1) [eB0 tx a b c d e e'] eS0 [("__class__", cc)] .none .none doc pm an (.ref cda) ct) hp.objs.size fI) lsup lcls (by decide +kernel) rfl (X₁ _ _ ho) rfl rfl rfl (X₁ _ _ hcode) rfl hvs hfile htop ?_
  refine ks_loadName_global rfl lsup (loadGlobal_builtin (env := callEnv (fnX "__init__" qual (eA0 p1) [eB0 tx a b c d e e'] eS0 [("__class__", cc)] .none .none doc pm an (.ref cda) ct) hp.objs.size fI) (hg.keeps hk₁) (mg_none_of X hg T.spr) (hb.keeps hk₁) ((hbi _ (by decide +kernel)).trans (by decide +kernel)) ⟨rfl, ?_⟩)
  refine wpAny_loadName_free rfl lcls rfl ⟨_, X₁ _ _ hcell, rfl⟩ ?_
  refine wpAny_loadName_local (v := .ref x) rfl lself hns e1 ?_
  refine ks_wpAny_isType_cls hClo rfl ⟨rfl, ?_⟩
  refine ks_wpAny_call_super hClo rfl hx₁ rfl (fun c e => nomatch e) (looks_mroIn X₁ T.sub) (fun h₂ hso k₂ => ?_)
  have X₂ : K.In h₂ := X₁.keeps k₂
  have hx₂ := k₂ _ _ hx₁
  have I₂ : InstAt h₂ x (excO C t0) C none := ⟨hx₂, rfl, rfl, trivial⟩
  have hxC : x ≠ C := fun z => by rw [z, hC] at hnx; cases hnx
  -- .__init__
  refine kxs_getMethod kxs_ValueError hso (looks_opaque X₂ T.opq) (l₀ := .ref C :: bm) (l := ((Value.ref C :: bm).dropWhile (· != .ref C)).drop 1) (fun A Q E s k q => wpAny_bind ((looks_clsIn X₂ hcl) A _ E s k (wpAny_pure q))) rfl X₂ ?_ (I₂.type.andThen (looks_subIn X₂ T.subV)) hxC (by decide +kernel) ?_
  · have z := T.sup
    unfold ks_superIn at z
    rw [hcl] at z
    exact z
  -- its call
  show wpAny _ _ (callWith e (.ref h₂.objs.size) [] (backTo e (starEach [.Constant (.str tx) 0 d] _)) []) _ _ _
  have hso₃ : (h₂.push (kxs_mw "ValueError.__init__" x)).get? h₂.objs.size = some (kxs_mw "ValueError.__init__" x) := Heap.get?_push_at rfl rfl
  have hx₃ : (h₂.push (kxs_mw "ValueError.__init__" x)).get? x = some (excO C t0) := Heap.get?_push_of_some _ hx₂
  refine kxs_callWith (i := "ValueError.__init__") (x := x) rfl (evalArgs_plain (spliced_cons (Calls.Constant_str (pos := d) (k := 0) (spliced_nil ⟨hso₃, ?_⟩))))
  show wpAny _ _ (call (.ref h₂.objs.size) [_]) _ _ _
  -- all that stood at the entry but x is the base of the walk
  have hb0 : ∀ y o, hp.get? y = some o → y ≠ x → (hideAll hp [x]).get? y = some o := fun y o z n => hideAll_get _ z (by simpa using n)
  have hb1 : ∀ y o, (hideAll hp [x]).get? y = some o → hp.get? y = some o ∧ y ≠ x := fun y o z => ⟨of_hideAll _ z, fun q => by rw [q, hideAll_none _ (by simp)] at z; cases z⟩
  have X0 : K.In (hideAll hp [x]) := fun y o z => hb0 y o (X y o z) fun q => by rw [q, hnx] at z; cases z
  have k₃ : ∀ y o, h₁.get? y = some o → (h₂.push (kxs_mw "ValueError.__init__" x)).get? y = some o := fun y o z => Heap.get?_push_of_some _ (k₂ y o z)
  have F₃ : Fr (hideAll hp [x]) hp.objs.size (h₂.push (kxs_mw "ValueError.__init__" x)) _ := ⟨hns.at fun o q => k₃ _ o q, fun y o z => k₃ y o (hk₁ y o (hb1 y o z).1), by rw [hideAll_size]; exact Nat.le_refl _⟩
  have n2 : ∀ y, hp.objs.size ≤ y → (hideAll hp [x]).get? y = none := fun y n => by
    cases z : (hideAll hp [x]).get? y with
    | none => rfl
    | some o => exact absurd (Heap.lt_size (hb1 y o z).1) (Nat.not_lt.mpr n)
  have l2 : hp.objs.size < h₂.objs.size := Heap.lt_size (k₂ _ _ hns.choose_spec.choose_spec.choose_spec.1)
  have ux : h₂.objs.size ≠ x := fun q => absurd (Heap.lt_size hx) (by rw [← q]; exact Nat.not_lt.mpr (Nat.le_of_lt l2))
  have N₃ : News (hideAll hp [x]) hp.objs.size (h₂.push (kxs_mw "ValueError.__init__" x)) [(h₂.objs.size, kxs_mw "ValueError.__init__" x), (x, excObj C t0 none .none)] := by
    intro p hp'
    rcases List.mem_cons.mp hp' with rfl | hp'
    · exact ⟨hso₃, Nat.ne_of_gt l2, n2 _ (Nat.le_of_lt l2)⟩
    · obtain rfl := List.mem_singleton.mp hp'
      exact ⟨hx₃, hxL.symm, hideAll_none _ (by simp)⟩
  refine kxs_call (i := "ValueError.__init__") (c2 := .none) F₃ X0 N₃ F.excBase_ValueError T.exI (List.mem_cons_self ..) (.tail ux (.head (fun p hp => nomatch hp))) (by show 1 ≤ sizeLine; rw [sizeLine_eq]; decide) (fun t1 h₄ F₄ N₄ _ => ?_)
  have hx₄ : h₄.get? x = some (excO C t1) := (N₄ (x, excObj C t1 none .none) (by simp)).1
  have kk : ∀ b o, b ≠ x → hp.get? b = some o → h₄.get? b = some o := fun b o n z => F₄.keep b o (hb0 b o z n)
  exact _root_.PySem.wpAt_of_wpAny (wpAny_execs_nil (hq h₄ _ t1 kk hx₄))
end
end OE
namespace OE
open PySem PySem.Spec PyProof.Rows L2
/-! ### two new objects at once -/
section
variable {P : Program} {w : World} {fs ex : List Addr} {H : Hp} {h h' : Heap} {a b : Addr} {o u : HO}
theorem upd2_at {x : Addr} (ha : H a = none) (hb : H b = none) {v : HO} (e : H x = some v) : upd (upd H b u) a o x = some v := by
  rw [upd_ne (ne_of_none e ha), upd_ne (ne_of_none e hb)]
  exact e
theorem un2 (k : ∀ x z, h.get? x = some z → h'.get? x = some z) (na : h.get? a = none) (nb : h.get? b = none) (ha : H a = none) (hb : H b = none) : Un fs ex H (upd (upd H b u) a o) h h' := by
  have out : ∀ x z, h.get? x = some z → x ≠ a ∧ x ≠ b := fun x z e => ⟨fun q => (by rw [q, na] at e; cases e), fun q => (by rw [q, nb] at e; cases e)⟩
  constructor
  · exact fun x z e _ _ _ => k x z e
  · exact fun x z e _ _ _ => ⟨z.slots, k x z e⟩
  · intro x z e n _
    rw [upd_ne (out x z e).1, upd_ne (out x z e).2]
    exact n
  · exact fun x z e _ => ⟨z, k x z e⟩
  · exact fun x xs e => upd2_at ha hb e
  · exact fun x z v e => upd2_at ha hb e
  · exact fun x ps e => ⟨#[], by rw [upd2_at ha hb e]; simp⟩
theorem hok2 (ok : HOk P w H h) (k : ∀ x z, h.get? x = some z → h'.get? x = some z) (ha : H a = none) (hb : H b = none) (na : ObjOk P w (upd (upd H b u) a o) h' a o) (nb : ObjOk P w (upd (upd H b u) a o) h' b u) : HOk P w (upd (upd H b u) a o) h' := by
  intro x v e
  by_cases xa : x = a
  · subst xa
    rw [upd_same] at e
    cases e
    exact na
  · by_cases xb : x = b
    · subst xb
      rw [upd_ne xa, upd_same] at e
      cases e
      exact nb
    · rw [upd_ne xa, upd_ne xb] at e
      exact (ok x v e).stay (fun c z _ q => k c z q) (fun c q => upd2_at ha hb q) fun c xs q => upd2_at ha hb q
end
/-! ### an error as a value -/
/-- the error at a, of the class at C, keeps v as f -/
def Kept (H : Hp) (a C : Addr) (f : Str) (v : V) : Prop := ∃ d, H a = some (exo a C (some d)) ∧ H d = some (exd d [(f, v)])
def tMk (C : Addr) (f : Str) (te : TE) : TE := fun σ H Q => te σ H fun v H1 => ∀ a d, H1 a = none → H1 d = none → d ≠ a → Q (.ref a) (upd (upd H1 d (exd d [(f, v)])) a (exo a C (some d)))
/-- how the arguments of __init__ bind -/
def Bds (f : Str) : Prop := ∀ (fd : FuncData), (∃ p1 p2, fd.params = eA f p1 p2) → fd.defaults = .none → fd.kwdefaults = .none → ∀ (x : Addr) (u : Value), bindArgs fd ⟨[.ref x, u], []⟩ = pure ([("self", .ref x), (f, u)] : List (Str × Value)) ∧ bindArgs fd ⟨[.ref x], [(f, u)]⟩ = pure ([("self", .ref x), (f, u)] : List (Str × Value))
section
variable {X : Cx} {C fI : Addr} {f x : Str} {k : Nat}
theorem make_run {pins : List (Addr × Obj)} {σ : L2.St} {H : Hp} {s : Shared} {v : V} {u : Value} {xs : List Value} {kw : List (Str × Value)} {Q : VK} (T : Cl1 X.prog X.K C fI f) (hr : Room (k + 1) X.A) (htop : (X.prog.main.scope.names.lookup ("super" : Str)).isSome = false) (I : Inv X pins σ H s)
    (hl : xs.length ≤ sizeLine) (hbd : ∀ (fd : FuncData), (∃ p1 p2, fd.params = eA f p1 p2) → fd.defaults = .none → fd.kwdefaults = .none → ∀ (x : Addr), bindArgs fd ⟨.ref x :: xs, kw⟩ = pure ([("self", .ref x), (f, u)] : List (Str × Value))) (rv : RelV v u)
    (q : ∀ a d, H a = none → H d = none → d ≠ a → Q (.ref a) (upd (upd H d (exd d [(f, v)])) a (exo a C (some d)))) : wpAny (model X.prog X.w) X.A (call (.ref C) xs kw) (EP X pins σ Q) X.xe s := by
  obtain ⟨nm, qn, N, bs, bm, sn, sub, ab, col, dd, k0, k1, k2, k3, k5, hC, hbm⟩ := T.cls
  obtain ⟨mb, nb, hbi⟩ := I.mod.blt
  obtain ⟨hp, g, dr, tk, os⟩ := s
  have kp : ∀ b o, hp.get? b = some o → (newHp hp C xs).get? b = some o := fun b o e => Heap.get?_push_of_some _ (Heap.get?_push_of_some _ e)
  have bk : ∀ b o, X.base.get? b = some o → (newHp hp C xs).get? b = some o := fun b o e => kp b o (I.bk b o e)
  have ox : (newHp hp C xs).get? (hp.objs.size + 1) = some (PySem.HandSPX.excO C hp.objs.size) := by heap_get
  have KX : X.K.In (newHp hp C xs) := I.mod.kin.keeps bk
  have nx : hp.get? (hp.objs.size + 1) = none := Heap.get?_none_of_le (Nat.le_succ _)
  have nK : X.K.lookup (hp.objs.size + 1) = none := by
    cases z : X.K.lookup (hp.objs.size + 1) with
    | none => rfl
    | some o =>
      have y : hp.get? _ = some o := I.kIn _ _ z
      rw [nx] at y
      cases y
  refine wpAny_call (call_any F.excBase_ValueError (fun Y => PySem.HandSPX.refsVE_contains Y bm hbm) (I.kIn _ _ hC) hl (PySem.W.looks_findIn I.kIn T.iC) (fun self => PySem.W.bind_fn I.kIn self T.tC) ?_)
  refine init1 T (x := hp.objs.size + 1) (t0 := hp.objs.size) (v := u) KX (I.mod.glob.keeps bk) (nb.keeps bk) hbi htop (I.mod.nolimit.keeps bk) ox nK ?_ (fun fd h1 h2 h3 => BindsTo.of_eq (hbd fd h1 h2 h3 _)) ?_
  · rw [make_depth]
    have := hr.dp
    omega
  · intro h' tk' d t1 E
    have k' : ∀ b o, hp.get? b = some o → h'.get? b = some o := fun b o e => E.keep b o (Nat.ne_of_lt (Nat.lt_succ_of_lt (Heap.lt_size e))) (kp b o e)
    have hsz : (newHp hp C xs).objs.size = hp.objs.size + 2 := by rw [newHp, Heap.size_push, Heap.size_push]
    have db := E.dbig
    have db2 : hp.objs.size ≤ d := by
      have z : (newHp hp C xs).objs.size ≤ d := db
      omega
    have nd : hp.get? d = none := Heap.get?_none_of_le db2
    have ha : H (hp.objs.size + 1) = none := I.hok.fresh (Nat.le_succ _)
    have hd : H d = none := I.hok.fresh db2
    refine ⟨rfl, .ref (hp.objs.size + 1), _, I.un (t' := tk') (un2 k' nx nd ha hd) (hok2 I.hok k' ha hd (exo_ok E.obj) (exd_ok E.ns fun g => ?_)), rfl, q _ d ha hd E.dne⟩
    exact relO_put (fs := []) (mA := fun _ => none) rv (fun _ => True.intro) g
end
end OE
/-! The draws of the laws by a stream of three numbers, the last of which counts. -/
namespace OB
open PySem PySem.Spec PyProof.Rows L2
def top (i : Nat) : Stmt := PySem.Challenge.pw_oldaddress_k69_whole_marked_givings.main.body.getD i (.Pass ⟨0, 0, 0, 0⟩)
abbrev sStream : Stmt := top 35
abbrev sDraw : Stmt := top 36
abbrev sPick : Stmt := top 37
/-- at p a stream that drew at most n times -/
def Src (n : Nat) (H : Hp) (p : Addr) : Prop := ∃ d s c : Int, H p = some (.lst [.int d, .int s, .int c]) ∧ 0 ≤ s ∧ s < 4294967296 ∧ 0 ≤ c ∧ c ≤ (n : Int)
theorem Src.mono {n m : Nat} {H : Hp} {p : Addr} (h : Src n H p) (l : n ≤ m) : Src m H p := by
  obtain ⟨d, s, c, a1, a2, a3, a4, a5⟩ := h
  exact ⟨d, s, c, a1, a2, a3, a4, by omega⟩
/-- all but the stream stands -/
def ButS (p : Addr) (H H' : Hp) : Prop := ∀ b o, b ≠ p → H b = some o → H' b = some o
theorem ButS.refl {p : Addr} {H : Hp} : ButS p H H := fun _ _ _ h => h
theorem ButS.trans {p : Addr} {H H1 H2 : Hp} (a : ButS p H H1) (b : ButS p H1 H2) : ButS p H H2 := fun x o n e => b x o n (a x o n e)
theorem ButS.same {p : Addr} {H H' : Hp} (a : Same H H') : ButS p H H' := fun x o _ e => a x o e
theorem ButS.put {p : Addr} {H : Hp} {u : HO} : ButS p H (upd H p u) := fun b o h e => by
  rw [upd_ne h]
  exact e
theorem Same.new {H : Hp} {q : Addr} {u : HO} (h : H q = none) : Same H (upd H q u) := fun b o e => by
  rw [upd_ne (ne_of_none e h)]
  exact e
/-- a comprehension whose list is known turn by turn -/
def AccP (D : Addr) (H1 : Hp) (acc : Nat → List V) (i : Nat) (H : Hp) : Prop := ButS D H1 H ∧ H D = some (.lst (acc i))
theorem acc_start {D : Addr} {H1 : Hp} {acc : Nat → List V} (a0 : acc 0 = []) : AccP D H1 acc 0 (upd H1 D (.lst [])) := ⟨ButS.put, by rw [a0]; exact upd_same⟩
theorem acc_in {D : Addr} {H1 H H4 : Hp} {acc : Nat → List V} {i : Nat} {y : V} (q : AccP D H1 acc i H) (e : Same H H4) (l : (acc i).length < sizeLine) (h : acc (i + 1) = acc i ++ [y]) : ∃ a, H4 D = some (.lst a) ∧ a.length < sizeLine ∧ AccP D H1 acc (i + 1) (upd H4 D (.lst (a ++ [y]))) :=
  ⟨acc i, e _ _ q.2, l, (q.1.trans (ButS.same e)).trans ButS.put, by rw [upd_same, h]⟩
theorem acc_out {D : Addr} {H1 H H3 : Hp} {acc : Nat → List V} {i : Nat} (q : AccP D H1 acc i H) (e : Same H H3) (h : acc (i + 1) = acc i) : AccP D H1 acc (i + 1) H3 := ⟨q.1.trans (ButS.same e), by rw [h]; exact e _ _ q.2⟩
theorem acc_same {D : Addr} {H0 H1 H : Hp} {acc : Nat → List V} {i : Nat} (q : AccP D H1 acc i H) (e : Same H0 H1) (n : H1 D = none) : Same H0 H := fun b o h => q.1 b o (ne_of_none (e _ _ h) n) (e _ _ h)
/-- the list that a map makes, turn by turn -/
def mapTo (xs : List V) (i : Nat) : List V := xs.take i
theorem mapTo_succ {xs : List V} {i : Nat} {y : V} (h : xs[i]? = some y) : mapTo xs (i + 1) = mapTo xs i ++ [y] := by
  unfold mapTo
  rw [List.take_add_one, h]
  rfl
theorem mapTo_len {xs : List V} {i n : Nat} (h : xs.length < n) : (mapTo xs i).length < n := by
  unfold mapTo
  rw [List.length_take]
  omega
theorem mapTo_all {xs : List V} : mapTo xs xs.length = xs := List.take_length ..
end OB
namespace OB
open PySem PySem.Spec PyProof.Rows L2
structure TxtD (mg : Str → Option Value) : Prop where
  abs : mg "abs" = none
  int : mg "int" = none
  sum : mg "sum" = none
  list : mg "list" = none
  len : mg "len" = none
  rng : mg "range" = none
  en : mg "enumerate" = none
def spStream (K : PySem.W.Frag) : Sp := fun vs H Q _ => ∃ (a : Addr) (k : Nat) (ns : List Int), vs = [.ref a, .int (k : Int)] ∧ SqL K H a (ns.map V.int) ∧ ns.length ≤ 100 ∧ k < 1000 ∧ ∀ H' p, H p = none → Same H H' → Src 0 H' p → Q (.ref p) H'
section
variable {P : Program} {w : World} {K : PySem.W.Frag} {mg : Str → Option Value} {base : Heap}
theorem scStream : FnScope ["script", "k", "cell", "mixed", "at", "one"] ["script", "k"] (defScope sStream) := ⟨rfl, rfl, rfl, by decide +kernel, rfl, by decide +kernel, by decide +kernel⟩
theorem cut_int (ns : List Int) (o : Option Int) : ∃ ms : List Int, cutV (ns.map V.int) none o = ms.map V.int := ⟨(ns.drop (HT.sIx ns.length 0 none)).take (HT.sIx ns.length ns.length o - HT.sIx ns.length 0 none), by simp [cutV, List.map_take, List.map_drop]⟩
theorem pe_imp {X : Cx} {e : Expr} {t t' : TE} (h : PE X e t) (i : ∀ σ H Q, t' σ H Q → t σ H Q) : PE X e t' := ⟨fun pins s σ H Q I q => h.run pins s σ H Q I (i _ _ _ q)⟩
def mixI (ns : List Int) : List Int := ns.zipIdx.map fun y => ((y.2 : Int) + 1) * (if y.1 < 0 then -y.1 else y.1)
def mixL (ns : List Int) : List V := ns.zipIdx.map fun y => V.int (((y.2 : Int) + 1) * (if y.1 < 0 then -y.1 else y.1))
theorem mixL_int (ns : List Int) : mixL ns = (mixI ns).map V.int := by
  unfold mixL mixI
  rw [List.map_map]
  rfl
def tCell (K : PySem.W.Frag) : TE := fun σ H Q => ∃ (a : Addr) (k : Nat) (ns : List Int), σ[0]? = some (some (.ref a)) ∧ σ[1]? = some (some (.int (k : Int))) ∧ SqL K H a (ns.map V.int) ∧ k < 1000 ∧ ∀ c H', Same H H' → Q (.int c) H'
theorem ok_stream {f : Addr} {fd : FuncData} (F : Fun K "_law_stream" "_law_stream" sStream f fd) (T : TxtD mg) : FnOk P w K mg base CX0 1 f fd ["script", "k"] (spStream K) := by
  refine F.ok scStream (fun vs H Q E h => ?_) (fun cdv A outer s H vs Q E hr h => ?_)
  · obtain ⟨a, k, ns, rfl, _⟩ := h
    rfl
  · obtain ⟨a, k, ns, rfl, hs, hn, hk, q⟩ := h
    have nd := scStream.nd
    refine ⟨_, pss_cons (ps_set (i := 2) nd rfl (Or.inl rfl) (pe_imp (t' := tCell K) (pe_ifExp (pt_cmpR op_lt (pv 1) (pe_callB call_len_seq (by rfl) T.len PySem.boot_len (pa_cons (pv 0) pa_nil)) (nomark _)) (pe_callB call_abs (by rfl) T.abs (by decide +kernel) (pa_cons (pe_ix ix_list (pv 0) (pv 1) (fun _ _ => rfl)) pa_nil))
        (pe_op op_add (pe_op op_mod (pe_callTy call_int1 (by rfl) T.int (by decide +kernel) (pa_cons (pe_callB (cr_sum rfl) (by rfl) T.sum (by decide +kernel) (pa_cons (pe_slice sl_list (pv 0) po_none (po_some pe_int)) pa_nil)) pa_nil)) pe_int) (pe_op op_mul pe_int (pv 1)))) (fun σ G Q h => ?_)))
      (pss_cons (ps_set (i := 3) nd rfl (Or.inl rfl) (pe_op op_mod (pe_callB (cr_sum rfl) (by rfl) T.sum (by decide +kernel) (pa_cons (pe_lc (own := [("at", 4), ("one", 5)]) (g := gTup K 2 (gCons (gName 4) (gCons (gName 5) gNil))) (tt := tYes) rfl nd (pi_enum (by rfl) T.en (pa_cons (pv 0) pa_nil))
          (blkOk_by (N := ["script", "k", "cell", "mixed", "at", "one"]) (sc := defScope sStream) (by decide +kernel)) (fun _ _ _ _ _ => pg_tup rfl (pgs_cons (pg_name (i := 4) nd rfl (Or.inl rfl)) (pgs_cons (pg_name (i := 5) nd rfl (Or.inl rfl)) pgs_nil))) (fun _ _ _ _ _ => pts_nil)
          (fun _ _ _ _ _ => pe_op op_mul (pe_op op_add (pv 4) pe_int) (pe_callTy call_int1 (by rfl) T.int (by decide +kernel) (pa_cons (pe_callB call_abs (by rfl) T.abs (by decide +kernel) (pa_cons (pv 5) pa_nil)) pa_nil)))) pa_nil)) pe_int))
      (pss_one (ps_ret (pe_lst (pa_cons (pe_ifExp (pt_cmpR op_ge (pv 2) (pe_op op_pow pe_int pe_int) (nomark _)) (pv 2) pe_int)
        (pa_cons (pe_op op_add (pe_op op_mod (pe_callTy call_int1 (by rfl) T.int (by decide +kernel) (pa_cons (pe_op op_add (pv 2) (pv 3)) pa_nil)) pe_int) (pe_op op_mul pe_int (pv 1))) (pa_cons pe_int pa_nil))))))), ?_⟩
    · obtain ⟨a, k, ns, s0, s1, hs, hk, q⟩ := h
      refine ⟨_, s1, _, s0, a, _, rfl, .inl hs, k, _, rfl, rfl, _, rfl, ?_⟩
      refine ite2 (fun h => ?_) (fun h => ?_)
      · have hk2 : k < ns.length := by
          have z := of_decide_eq_true h
          rw [List.length_map] at z
          omega
        exact ⟨_, s0, _, s1, a, _, k, .int ns[k], rfl, rfl, hs, atI_nat (by rw [List.getElem?_map, List.getElem?_eq_getElem hk2] <;> rfl), _, rfl, q _ _ (Same.refl _)⟩
      · refine ⟨_, s0, 1, rfl, a, _, rfl, hs, fun b nb => ?_⟩
        obtain ⟨ms, hm⟩ := cut_int ns (some 1)
        rw [hm]
        exact ⟨b, ms, rfl, SqL.of upd_same, .inl ⟨_, rfl, _, 1000003, rfl, rfl, (by show (0 : Int) < 1000003; decide), _, s1, 7, k, rfl, rfl, .inl ⟨by decide, by decide⟩, _, _, rfl, rfl, q _ _ (Same.new nb)⟩⟩
    · refine ⟨a, k, ns, rfl, rfl, hs, hk, fun c H1 e1 => ?_⟩
      show tSeq _ _ _ ([some (.ref a), some (.int k), some (.int c), none, none, none] : L2.St) H1
      have hs1 : SqL K H1 a (ns.map V.int) := Same.seq e1 hs
      refine ⟨_, rfl, a, _, rfl, hs1, fun D nD => ?_⟩
      have nA : ∀ {i : Nat} {G : Hp}, AccP D H1 (mapTo (mixL ns)) i G → SqL K G a (ns.map V.int) := fun q => Same.seq (acc_same q (Same.refl H1) nD) hs1
      have lm : (mixL ns).length = (ns.map V.int).length := by simp [mixL]
      refine lc_it walk_enum (AccP D H1 (mapTo (mixL ns))) (acc_start rfl) (fun i G _ z => nA z) (fun i x G G' hi z y => ?_) (fun G z => ?_)
      · obtain ⟨TT, x1, x2, rfl, hT, rfl, hx, hy⟩ := y
        obtain rfl : V.int (i : Nat) = x1 := Option.some.inj hx
        rw [List.length_map] at hi
        have hy : (ns.map V.int)[i]? = some x2 := hy
        have hy2 : x2 = V.int ns[i] := by
          rw [List.getElem?_map, List.getElem?_eq_getElem hi] at hy
          exact (Option.some.inj hy).symm
        subst hy2
        refine ⟨TT, _, rfl, SqT.of upd_same, rfl, .int (i : Nat), _, rfl, .int ns[i], _, rfl, rfl, rfl, ?_⟩
        dsimp only [tYes]
        rw [if_pos rfl]
        refine ⟨_, rfl, _, _, rfl, rfl, _, rfl, _, rfl, .inl ⟨_, rfl, _, _, rfl, rfl, .inl ⟨by omega, by omega⟩, acc_in z (Same.new hT) (mapTo_len (by rw [lm, List.length_map, sizeLine_eq]; omega)) (mapTo_succ ?_)⟩⟩
        simp [mixL, hi]
      · rw [← lm] at z
        have gD : G D = some (.lst (mixL ns)) := by
          rw [z.2, mapTo_all]
        have e2 : Same H G := acc_same z e1 nD
        refine ⟨D, mixI ns, rfl, SqL.of (by rw [gD, mixL_int]), ?_⟩
        generalize (mixI ns).sum = m
        refine ⟨_, _, rfl, rfl, (by show (0 : Int) < 2147483647; decide), ?_⟩
        have m0 := Int.emod_nonneg m (show (2147483647 : Int) ≠ 0 by decide)
        obtain ⟨mx, hmx⟩ : ∃ mx, mx = m % 2147483647 := ⟨_, rfl⟩
        have fin : ∀ d : Int, ∀ p, G p = none → Q (.ref p) (upd G p (.lst [.int d, .int ((c + mx) % 2147483647 + 31 * k), .int 0])) := fun d p hp => by
          refine q _ p (e2.free hp) (e2.trans (Same.new hp)) ⟨d, _, 0, upd_same, ?_, ?_, by omega, by omega⟩
          · have := Int.emod_nonneg (c + mx) (show (2147483647 : Int) ≠ 0 by decide)
            omega
          · have := Int.emod_lt_of_pos (c + mx) (show (0 : Int) < 2147483647 by decide)
            omega
        refine ⟨_, rfl, 10, 18, rfl, rfl, ⟨by decide, by decide, by decide⟩, c, _, rfl, rfl, _, rfl, ?_⟩
        refine ite2 (fun h => ⟨_, rfl, ?_⟩) (fun h => ?_)
        all_goals exact ⟨_, rfl, _, rfl, c, mx, rfl, (by rw [hmx]), .inl ⟨_, rfl, _, 2147483647, rfl, rfl, (by show (0 : Int) < 2147483647; decide), _, rfl, 31, k, rfl, rfl, .inl ⟨by decide, by decide⟩, _, _, rfl, rfl, by show 3 ≤ sizeLine; decide, fun p hp => fin _ p hp⟩⟩
end
end OB
namespace OB
open PySem PySem.Spec PyProof.Rows L2
theorem SqL.but {K : PySem.W.Frag} {p t : Addr} {H H' : Hp} {xs : List V} (h : SqL K H t xs) (n : t ≠ p) (b : ButS p H H') : SqL K H' t xs := by
  rcases h with (h | ⟨o, h⟩) | h
  · exact .inl (.inl (b _ _ n h))
  · exact .inl (.inr ⟨o, b _ _ n h⟩)
  · exact .inr h
theorem Src.but {n : Nat} {p : Addr} {H : Hp} {q : Addr} {u : HO} (h : Src n H p) (e : H q = none) : Src n (upd H q u) p := by
  obtain ⟨d, s, c, h, r⟩ := h
  exact ⟨d, s, c, by rw [upd_ne (ne_of_none h e)]; exact h, r⟩
theorem Src.ne {n : Nat} {p : Addr} {H : Hp} {q : Addr} (h : Src n H p) (e : H q = none) : q ≠ p := fun z => by
  obtain ⟨d, s, c, h, r⟩ := h
  rw [z, h] at e
  cases e
theorem Src.put {n : Nat} {p : Addr} {H : Hp} {q : Addr} {u : HO} (h : Src n H p) (e : q ≠ p) : Src n (upd H q u) p := by
  obtain ⟨d, s, c, h, r⟩ := h
  exact ⟨d, s, c, by rw [upd_ne e.symm]; exact h, r⟩
theorem Src.same {n : Nat} {p : Addr} {H H' : Hp} (S : Src n H p) (e : Same H H') : Src n H' p := by
  obtain ⟨a, b, c, hp, r⟩ := S
  exact ⟨a, b, c, e _ _ hp, r⟩
theorem Src.free {n : Nat} {p : Addr} {H H' : Hp} {q : Addr} (S : Src n H' p) (b : ButS p H H') (h : H' q = none) : H q = none := by
  cases e : H q with
  | none => rfl
  | some o =>
    have z := b q o (S.ne h) e
    rw [h] at z
    cases z
def spDraw : Sp := fun vs H Q _ => ∃ (p : Addr) (many : Int) (n : Nat), vs = [.ref p, .int many] ∧ Src n H p ∧ n < 1000000000 ∧ 0 < many ∧ many.natAbs < 2 ^ 4096 ∧ ∀ H' m, ButS p H H' → Src (n + 1) H' p → 0 ≤ m → m < many → Q (.int m) H'
def spPick (K : PySem.W.Frag) : Sp := fun vs H Q _ => ∃ (p t : Addr) (xs : List V) (n : Nat), vs = [.ref p, .ref t] ∧ Src n H p ∧ n < 1000000000 ∧ SqL K H t xs ∧ t ≠ p ∧ 0 < xs.length ∧ xs.length < 1000000 ∧
  ∀ H' (j : Nat) x, ButS p H H' → Src (n + 1) H' p → xs[j]? = some x → Q x H'
theorem small_many {n : Nat} (h : n < 1000000) : ((n : Int)).natAbs < 2 ^ 4096 := by
  have e : ((n : Int)).natAbs = n := Int.natAbs_natCast n
  rw [e]
  exact Nat.lt_of_lt_of_le h (Nat.le_trans (by decide : 1000000 ≤ 2 ^ 20) (Nat.pow_le_pow_right (by decide) (by decide)))
section
variable {P : Program} {w : World} {K : PySem.W.Frag} {mg : Str → Option Value} {base : Heap}
theorem scDraw : FnScope ["stream", "many", "digit", "spread"] ["stream", "many"] (defScope sDraw) := ⟨rfl, rfl, rfl, by decide +kernel, rfl, by decide +kernel, by decide +kernel⟩
theorem ok_draw {f : Addr} {fd : FuncData} (F : Fun K "_law_draw" "_law_draw" sDraw f fd) (T : TxtD mg) : FnOk P w K mg base CX0 1 f fd ["stream", "many"] spDraw := by
  refine F.ok scDraw (fun vs H Q E h => ?_) (fun cdv A outer s H vs Q E hr h => ?_)
  · obtain ⟨p, many, n, rfl, _⟩ := h
    rfl
  · obtain ⟨p, many, n, rfl, ⟨d, sd, c, S, s0, s1, c0, c1⟩, hn, hm, hm2, k⟩ := h
    have nd := scDraw.nd
    refine ⟨_, pss_cons (ps_if (pt_cmpR op_gt (pe_ix ix_list (pv 0) pe_int (fun _ _ => rfl)) pe_int (nomark _))
        (pss_cons (ps_set (i := 2) nd rfl (Or.inl rfl) (pe_op op_mod (pe_callTy call_int1 (by rfl) T.int (by decide +kernel) (pa_cons (pe_ix ix_list (pv 0) pe_int (fun _ _ => rfl)) pa_nil)) (pv 1)))
        (pss_cons (ps_asg (pe_op op_fdivW (pe_ix ix_list (pv 0) pe_int (fun _ _ => rfl)) (pv 1)) (pg_sub (pv 0) pe_int set_list))
        (pss_one (ps_ret (pv 2))))) pss_nil)
      (pss_cons (ps_asg (pe_op op_add (pe_ix ix_list (pv 0) pe_int (fun _ _ => rfl)) pe_int) (pg_sub (pv 0) pe_int set_list))
      (pss_cons (ps_set (i := 3) nd rfl (Or.inl rfl) (pe_op op_mod (pe_op op_pow (pe_callTy call_int1 (by rfl) T.int (by decide +kernel) (pa_cons (pe_op op_add (pe_op op_add (pe_ix ix_list (pv 0) pe_int (fun _ _ => rfl)) (pe_op op_mul pe_int (pe_ix ix_list (pv 0) pe_int (fun _ _ => rfl)))) pe_int) pa_nil)) pe_int) pe_int))
      (pss_one (ps_ret (pe_op op_mod (pe_op op_fdiv (pe_op op_mod (pe_callTy call_int1 (by rfl) T.int (by decide +kernel) (pa_cons (pe_op op_mul (pe_op op_add (pv 3) (pe_ix ix_list (pv 0) pe_int (fun _ _ => rfl))) pe_int) pa_nil)) pe_int) pe_int) (pv 1)))))), ?_⟩
    refine ⟨_, rfl, p, _, 0, .int d, rfl, rfl, SqL.of S, rfl, d, 0, rfl, rfl, _, rfl, ?_⟩
    refine ite2 (fun h => ?_) (fun h => ?_)
    · refine ⟨_, rfl, p, _, 0, .int d, rfl, rfl, SqL.of S, rfl, .inl ⟨d, rfl, _, rfl, d, many, rfl, rfl, hm, ?_⟩⟩
      refine ⟨_, rfl, p, _, 0, .int d, rfl, rfl, SqL.of S, rfl, _, rfl, d, many, rfl, rfl, wide_div hm hm2 (by decide) (by decide), _, rfl, p, _, 0, 0, rfl, rfl, S, rfl, ?_⟩
      exact ⟨_, rfl, k _ (d % many) ButS.put ⟨_, _, _, upd_same, s0, s1, c0, by omega⟩ (Int.emod_nonneg _ (by omega)) (Int.emod_lt_of_pos _ hm)⟩
    · refine ⟨_, rfl, p, _, 2, .int c, rfl, rfl, SqL.of S, rfl, c, 1, rfl, rfl, _, rfl, p, _, 2, 2, rfl, rfl, S, rfl, ?_⟩
      have B : ButS p H (upd H p (.lst [.int d, .int sd, .int (c + 1)])) := ButS.put
      have S2 : (upd H p (.lst [.int d, .int sd, .int (c + 1)])) p = some (.lst [.int d, .int sd, .int (c + 1)]) := upd_same
      show tSeq _ _ _ _ (upd H p (.lst [.int d, .int sd, .int (c + 1)]))
      generalize upd H p (.lst [.int d, .int sd, .int (c + 1)]) = H2 at B S2 ⊢
      have bound : -(2 ^ 64) < sd + 7919 * (c + 1) + 104729 ∧ sd + 7919 * (c + 1) + 104729 < 2 ^ 64 := by
        have : (n : Int) < 1000000000 := by omega
        constructor <;> omega
      refine ⟨_, rfl, p, _, 1, .int sd, rfl, rfl, SqL.of S2, rfl, _, rfl, p, _, 2, .int (c + 1), rfl, rfl, SqL.of S2, rfl, 7919, c + 1, rfl, rfl, .inl ⟨by decide, by decide⟩, sd, _, rfl, rfl, _, 104729, rfl, rfl, .inl ⟨_, rfl, _, 5, rfl, rfl, ⟨by decide, by decide, by omega⟩, _, 2147483647, rfl, rfl, (by show (0 : Int) < 2147483647; decide), ?_⟩⟩
      refine ⟨_, rfl, _, rfl, p, _, 2, .int (c + 1), rfl, rfl, SqL.of S2, rfl, _, c + 1, rfl, rfl, _, 40692, rfl, rfl, .inr ⟨by decide, by decide⟩, .inl ⟨_, rfl, _, 2147483629, rfl, rfl, (by show (0 : Int) < 2147483629; decide), _, 7, rfl, rfl, ⟨by decide, by decide⟩, _, rfl, _, many, rfl, rfl, hm, ?_⟩⟩
      exact k _ _ B ⟨_, _, _, S2, s0, s1, by omega, by omega⟩ (Int.emod_nonneg _ (by omega)) (Int.emod_lt_of_pos _ hm)
theorem scPick : FnScope ["stream", "things"] ["stream", "things"] (defScope sPick) := ⟨rfl, rfl, rfl, by decide +kernel, rfl, by decide +kernel, by decide +kernel⟩
theorem ok_pick {f fD : Addr} {fd fdD : FuncData} (F : Fun K "_law_pick" "_law_pick" sPick f fd) (T : TxtD mg) (GD : FnOk P w K mg base CX0 1 fD fdD ["stream", "many"] spDraw) (gD : mg "_law_draw" = some (.ref fD)) (kD : PySem.W.keepIn K (.ref fD) = true) (bD : Binds K fdD ["stream", "many"] []) : FnOk P w K mg base CX0 2 f fd ["stream", "things"] (spPick K) := by
  refine F.ok scPick (fun vs H Q E h => ?_) (fun cdv A outer s H vs Q E hr h => ?_)
  · obtain ⟨p, t, xs, n, rfl, _⟩ := h
    rfl
  · obtain ⟨p, t, xs, n, rfl, S, hn, ht, nt, x1, x2, k⟩ := h
    refine ⟨_, pss_one (ps_ret (pe_ix ix_list (pv 1) (pe_call GD hr (by rfl) gD kD bD .nil pass0 (pa_cons (pv 0) (pa_cons (pe_callB call_len_seq (by rfl) T.len PySem.boot_len (pa_cons (pv 1) pa_nil)) pa_nil))) (fun _ _ => rfl))), ?_⟩
    refine ⟨_, rfl, _, rfl, _, rfl, t, xs, rfl, .inl ht, p, (xs.length : Int), n, rfl, S, hn, by omega, small_many x2, fun H' m B S' h1 h2 => ?_⟩
    have e : (m.toNat : Int) = m := Int.toNat_of_nonneg h1
    have hj : m.toNat < xs.length := by omega
    obtain ⟨x, q⟩ : ∃ x, xs[m.toNat]? = some x := ⟨_, List.getElem?_eq_getElem hj⟩
    exact ⟨t, xs, m, x, rfl, rfl, SqL.but ht nt B, e ▸ atI_nat q, k _ _ _ B S' q⟩
end
end OB
namespace OB
open PySem PySem.Spec PyProof.Rows
open Sem (wp)
/-! ### isinstance of a def -/
theorem fn_class : typeLookup (.type "function") "__class__" = pure (some (.builtin "object.__class__")) := by
  rw [typeLookup_type, builtinLookup_eq_fast]
  kernel_rfl
theorem fn_owner : isSubtype (.type "function") (.type (".".intercalate ("object.__class__".cutAt '.').dropLast)) = pure true := by
  rw [F.owner_object_class, isSubtype_type]
  kernel_rfl
theorem fn_slot : Slot "function" "__getattribute__" "object.__getattribute__" := by
  refine Slot.of (owner := "object") (n := "__getattribute__") ?_ (by decide +kernel) (by decide +kernel) (by decide +kernel) ?_ ?_
  · rw [typeLookup_type, builtinLookup_eq_fast]
    kernel_rfl
  · first
      | exact .inl (by decide +kernel)
      | exact .inr (by decide +kernel)
  · rw [isSubtype_type]
    kernel_rfl
section
variable {prog : Program} {w : World} {A : Around} {E : Value → Shared → Prop} {h : Heap} {g : Array GenState} {d : Drawn} {t : Nat} {os : OsState} {a : Addr} {o : Obj}
theorem fn_get {R : Result → Shared → Prop} (hx : h.get? a = some o) (hc : o.cls = .type "function") (hq : R (.ok (.ret (.type "function"))) ⟨h, g, d, t, os⟩) :
    codeAny (model prog w) A (.call (.builtin "getset_descriptor.__get__") ⟨[.builtin "object.__class__", .ref a, .type "function"], []⟩) R ⟨h, g, d, t, os⟩ := by
  have isF : (⟨h, g, d, t, os⟩ : Shared).TypeIs (.ref a) "function" := ⟨_, hx, hc⟩
  have isD : (⟨h, g, d, t, os⟩ : Shared).TypeIs (.builtin "object.__class__") "getset_descriptor" := F.typeOf_object_class
  have own := fn_owner
  refine codeAny_call_builtin F.slot_gs_get.plain F.entry_gs_get (F.slot_gs_get.check _ _ _ _ _ _ _ _ isD (F.args_gs_get _ _ _) ?_)
  repeat any_goals first | assumption | wp_step
  refine ⟨Code.quiet_builtin _ (by decide +kernel), codeAny_builtin F.entry_object_class ?_⟩
  repeat any_goals first | assumption | wp_step
theorem fn_entry {tk : Tok} {Q : Fin → Shared → Prop} (hx : h.get? a = some o) (hc : o.cls = .type "function") (hq : Q (.done (.ret (.type "function"))) ⟨h, g, d, t, os⟩) :
    wpAny (model prog w) A (Builtin.«object.__getattribute__» ⟨[.ref a, .str "__class__" tk], []⟩) Q E ⟨h, g, d, t, os⟩ := by
  have isF : (⟨h, g, d, t, os⟩ : Shared).TypeIs (.ref a) "function" := ⟨_, hx, hc⟩
  have isD : (⟨h, g, d, t, os⟩ : Shared).TypeIs (.builtin "object.__class__") "getset_descriptor" := F.typeOf_object_class
  have k1 := fn_class
  have k2 := F.typeOf_object_class
  have k3 := F.slot_gs_get.lookup
  have k4 := F.slot_gs_set.lookup
  repeat any_goals first | assumption | wp_step
  refine fn_get hx hc ?_
  repeat any_goals first | assumption | wp_step
theorem fn_call {tk : Tok} {R : Result → Shared → Prop} (hx : h.get? a = some o) (hc : o.cls = .type "function") (hq : R (.ok (.ret (.type "function"))) ⟨h, g, d, t, os⟩) :
    codeAny (model prog w) A (.call (.builtin "object.__getattribute__") ⟨[.ref a, .str "__class__" tk], []⟩) R ⟨h, g, d, t, os⟩ := by
  have isF : (⟨h, g, d, t, os⟩ : Shared).TypeIs (.ref a) "function" := ⟨_, hx, hc⟩
  exact codeAny_call_builtin fn_slot.plain F.entry_object_getattribute (fn_slot.check _ _ _ _ _ _ _ _ isF (F.args_object_getattribute_2 _ _) (fn_entry hx hc hq))
theorem fn_by {tk : Tok} {Q : Value → Shared → Prop} (hx : h.get? a = some o) (hc : o.cls = .type "function") (hq : Q (.type "function") ⟨h, g, d, t, os⟩) : wpAny (model prog w) A (getAttrBy (.ref a) (.str "__class__" tk) false) Q E ⟨h, g, d, t, os⟩ := by
  have isF : (⟨h, g, d, t, os⟩ : Shared).TypeIs (.ref a) "function" := ⟨_, hx, hc⟩
  have k1 := fn_slot.lookup
  have k2 := fn_slot.bind (.ref a)
  repeat any_goals first | assumption | wp_step
  refine fn_call hx hc ?_
  repeat any_goals first | assumption | wp_step
theorem fn_attr {Q : Option Value → Shared → Prop} (hx : h.get? a = some o) (hc : o.cls = .type "function") (hq : Q (some (.type "function")) ⟨h, g, d, t + 1, os⟩) : wpAny (model prog w) A (getAttr? (.ref a) "__class__") Q E ⟨h, g, d, t, os⟩ := by
  unfold getAttr? getAttrBy?
  repeat any_goals first | assumption | with_reducible apply fn_by hx hc | wp_step
theorem kit_fn {K : PySem.W.Frag} {a : Addr} : PySem.W.KitX K (.ref a) (.type "function") (PySem.W.KitAt a "function") := PySem.W.kitx_of PySem.W.kitAt_ty (fun {_ _ _ _ _ s} p k => by
  obtain ⟨h, g, d, t, os⟩ := s
  obtain ⟨o, h1, h2⟩ := p
  exact fn_attr h1 h2 k)
end
end OB
namespace OB
open PySem PySem.Spec PyProof.Rows L2
/-! ### any object of the laws -/
/-- an own class whose instances stand about: no kind of a number, of a text, of a row -/
structure OwnC (K : PySem.W.Frag) (C : Addr) : Prop where
  cl : Cls K C
  ha : PySem.W.findIn K (.ref C) "__class__" = some (some (.builtin "object.__class__"))
  hn : PySem.W.specialIn K (.builtin "object.__class__") "__get__" = some (some (.builtin "getset_descriptor.__get__"))
  htk : PySem.W.takesIn K (.builtin "object.__class__") = some true
  hm : PySem.W.mroIn K C (.type "object") = some true
  no : ∀ T ∈ ["int", "bool", "str", "list", "tuple", "dict"], PySem.W.kitOne K (.ref C) (.type T) = some false
inductive Kd where
  | non | bl | int | str | lst | tup | dct | fn | ins
  deriving DecidableEq
inductive Any (K : PySem.W.Frag) (H : Hp) : V → Kd → Prop where
  | non : Any K H .non .non
  | bl (b : Bool) : Any K H (.bl b) .bl
  | int (i : Int) : Any K H (.int i) .int
  | str {x : Str} (h : x.length ≤ 100) : Any K H (.str x) .str
  | lst {a : Addr} {xs : List V} : H a = some (.lst xs) → Any K H (.ref a) .lst
  | tup {a : Addr} {xs : List V} : H a = some (.tup xs) → Any K H (.ref a) .tup
  | dct {a : Addr} {kvs : List (Key × V)} : H a = some (.dK kvs) → Any K H (.ref a) .dct
  | fn {a : Addr} {o : Obj} : K.lookup a = some o → o.cls = .type "function" → Any K H (.ref a) .fn
  | ins {a C dx : Addr} {fs : List (Str × V)} : H a = some (.ins C dx fs) → OwnC K C → Any K H (.ref a) .ins
theorem Any.same {K : PySem.W.Frag} {H H' : Hp} {v : V} {k : Kd} (h : Any K H v k) (e : Same H H') : Any K H' v k := by
  cases h with
  | non => exact .non
  | bl b => exact .bl b
  | int i => exact .int i
  | str h => exact .str h
  | lst q => exact .lst (e _ _ q)
  | tup q => exact .tup (e _ _ q)
  | dct q => exact .dct (e _ _ q)
  | fn q c => exact .fn q c
  | ins q o => exact .ins (e _ _ q) o
def Kd.isInt (k : Kd) : Bool := match k with
  | .int => true
  | _ => false
def Kd.isBl (k : Kd) : Bool := match k with
  | .bl => true
  | _ => false
def Kd.isStr (k : Kd) : Bool := match k with
  | .str => true
  | _ => false
def Kd.isLst (k : Kd) : Bool := match k with
  | .lst => true
  | _ => false
def Kd.isTup (k : Kd) : Bool := match k with
  | .tup => true
  | _ => false
def Kd.isDct (k : Kd) : Bool := match k with
  | .dct => true
  | _ => false
/-- a value's kind -/
inductive TyA (K : PySem.W.Frag) (H : Hp) : V → Value → Prop where
  | x {v : V} {t : Value} (h : TyX K H v t) : TyA K H v t
  | fn {a : Addr} {o : Obj} (e : K.lookup a = some o) (c : o.cls = .type "function") : TyA K H (.ref a) (.type "function")
def rIsA (K : PySem.W.Frag) : List V → Hp → VK → Prop := fun xs H Q => ∃ (x c : V) (t u : Value) (b : Bool), xs = [x, c] ∧ ClsV c u ∧ TyA K H x t ∧ PySem.W.kitOne K t u = some b ∧ Q (.bl b) H
def rIsAT (K : PySem.W.Frag) : List V → Hp → VK → Prop := fun xs H Q => ∃ (x : V) (tp : Addr) (cs : List V) (t : Value) (us : List Value) (b : Bool), xs = [x, .ref tp] ∧ H tp = some (.tup cs) ∧ Paired ClsV cs us ∧ TyA K H x t ∧ PySem.W.kitAny K t us = some b ∧ Q (.bl b) H
section
variable {X : Cx} {pins : List (Addr × Obj)} {σ : L2.St} {H : Hp} {s : Shared}
theorem kitA_of {x : V} {u t : Value} (I : Inv X pins σ H s) (rx : RelV x u) (ty : TyA X.K H x t) : ∃ P : Heap → Prop, PySem.W.KitX X.K u t P ∧ P s.heap ∧ u ≠ .builtin "__main__.__loader__#opaque" := by
  cases ty with
  | x h => exact kit_of I rx h
  | @fn a o e c =>
    cases (show u = Value.ref a from rx)
    exact ⟨_, kit_fn, ⟨o, I.kIn a o e, c⟩, fun z => nomatch z⟩
theorem call_isA : CallR X (.builtin "isinstance") (rIsA X.K) := by
  intro pins s σ H xs us Q I r h
  obtain ⟨x, c, t, u, b, rfl, k, ty, e, q⟩ := h
  obtain ⟨u1, u2, rfl, r1, r2⟩ := vals2 r
  obtain rfl := k.eq r2
  obtain ⟨P, Z, p, hx⟩ := kitA_of I r1 ty
  exact PySem.W.kia_one Z I.kIn p e hx fun tk => ⟨.bl b, H, I.tok tk, rfl, q⟩
theorem call_isAT : CallR X (.builtin "isinstance") (rIsAT X.K) := by
  intro pins s σ H xs us Q I r h
  obtain ⟨x, tp, cs, t, ws, b, rfl, hT, k, ty, e, q⟩ := h
  obtain ⟨u1, u2, rfl, r1, r2⟩ := vals2 r
  cases (show u2 = Value.ref tp from r2)
  obtain ⟨P, Z, p, hx⟩ := kitA_of I r1 ty
  obtain ⟨_, its, rv, o, h1, h2, n, h3⟩ := (show ObjOk X.prog X.w H s.heap tp (.tup cs) from I.hok tp _ hT)
  obtain rfl := ClsV.all k rv
  obtain ⟨oc, od, dt, sl⟩ := o
  simp only at h2 h3
  subst h2 h3
  exact PySem.W.kia_tup Z I.kIn p h1 e hx fun tk => ⟨.bl b, H, I.tok tk, rfl, q⟩
end
/-- what isinstance answers of such an object -/
structure Says6 (K : PySem.W.Frag) (H : Hp) (v : V) (k : Kd) (t : Value) : Prop where
  ty : TyA K H v t
  int : PySem.W.kitOne K t (.type "int") = some (k.isInt || k.isBl)
  bool : PySem.W.kitOne K t (.type "bool") = some k.isBl
  str : PySem.W.kitOne K t (.type "str") = some k.isStr
  list : PySem.W.kitOne K t (.type "list") = some k.isLst
  tuple : PySem.W.kitOne K t (.type "tuple") = some k.isTup
  dict : PySem.W.kitOne K t (.type "dict") = some k.isDct
theorem tyA6 {K : PySem.W.Frag} {H : Hp} {v : V} {k : Kd} {T : String} (h : TyA K H v (.type T)) (a : kitB T "int" = some (k.isInt || k.isBl) ∧ kitB T "bool" = some k.isBl ∧ kitB T "str" = some k.isStr ∧ kitB T "list" = some k.isLst ∧ kitB T "tuple" = some k.isTup ∧ kitB T "dict" = some k.isDct) : Says6 K H v k (.type T) :=
  ⟨h, kit_ty a.1, kit_ty a.2.1, kit_ty a.2.2.1, kit_ty a.2.2.2.1, kit_ty a.2.2.2.2.1, kit_ty a.2.2.2.2.2⟩
theorem Any.says {K : PySem.W.Frag} {H : Hp} {v : V} {k : Kd} (h : Any K H v k) : ∃ t, Says6 K H v k t := by
  cases h with
  | non => exact ⟨_, tyA6 (.x (.base .non)) (by decide +kernel)⟩
  | bl b => exact ⟨_, tyA6 (.x (.base (.bl b))) (by decide +kernel)⟩
  | int i => exact ⟨_, tyA6 (.x (.base (.int i))) (by decide +kernel)⟩
  | @str x h => exact ⟨_, tyA6 (.x (.base (.str x))) (by decide +kernel)⟩
  | lst e => exact ⟨_, tyA6 (.x (.base (.lst e))) (by decide +kernel)⟩
  | tup e => exact ⟨_, tyA6 (.x (.base (.tup e))) (by decide +kernel)⟩
  | dct e => exact ⟨_, tyA6 (.x (.base (.dK e))) (by decide +kernel)⟩
  | fn e c => exact ⟨_, tyA6 (.fn e c) (by decide +kernel)⟩
  | @ins a C dx fs e o => exact ⟨.ref C, .x (.base (.ins e o.cl o.ha o.hn o.htk o.hm)), o.no _ (by simp), o.no _ (by simp), o.no _ (by simp), o.no _ (by simp), o.no _ (by simp), o.no _ (by simp)⟩
theorem Says6.seq {K : PySem.W.Frag} {H : Hp} {v : V} {k : Kd} {t : Value} (h : Says6 K H v k t) : PySem.W.kitAny K t [.type "list", .type "tuple"] = some (k.isLst || k.isTup) :=
  kitAny_cons h.list (fun e => by rw [e]; exact kitAny_cons h.tuple (fun e2 => by rw [e2]; rfl) fun e2 => by rw [e2]; rfl) fun e => by rw [e]; rfl
end OB
namespace OB
open PySem PySem.Spec PyProof.Rows L2
/-! ### the program's small questions -/
abbrev sIsInt : Stmt := top 1
abbrev sIsNum : Stmt := top 2
abbrev sIsList : Stmt := top 4
theorem bootIsi : bootBuiltins "isinstance" = some (.builtin "isinstance") := by decide +kernel
theorem bInt : bootBuiltins "int" = some (.type "int") := by decide +kernel
theorem bBool : bootBuiltins "bool" = some (.type "bool") := by decide +kernel
theorem bStr : bootBuiltins "str" = some (.type "str") := by decide +kernel
theorem bList : bootBuiltins "list" = some (.type "list") := by decide +kernel
theorem bTuple : bootBuiltins "tuple" = some (.type "tuple") := by decide +kernel
theorem bDict : bootBuiltins "dict" = some (.type "dict") := by decide +kernel
structure TxtC (mg : Str → Option Value) : Prop where
  isi : mg "isinstance" = none
  int : mg "int" = none
  bool : mg "bool" = none
  str : mg "str" = none
  list : mg "list" = none
  tuple : mg "tuple" = none
  len : mg "len" = none
  all : mg "all" = none
/-- what is asked of any object and answered by True or False -/
def spAsk (K : PySem.W.Frag) (f : V → Kd → Bool) : Sp := fun vs H Q _ => ∃ (v : V) (k : Kd), vs = [v] ∧ Any K H v k ∧ ∀ H', Same H H' → Q (.bl (f v k)) H'
def numFrom (n : Int) (v : V) (_ : Kd) : Bool := match v with
  | .int i => decide (n ≤ i)
  | _ => false
def fInt (_ : V) (k : Kd) : Bool := k.isInt
def fSeq (_ : V) (k : Kd) : Bool := k.isLst || k.isTup
section
variable {P : Program} {w : World} {K : PySem.W.Frag} {mg : Str → Option Value} {base : Heap}
theorem scIsInt : FnScope ["thing"] ["thing"] (defScope sIsInt) := ⟨rfl, rfl, rfl, by decide +kernel, rfl, by decide +kernel, by decide +kernel⟩
theorem ok_isInt {f : Addr} {fd : FuncData} (F : Fun K "is_integer" "is_integer" sIsInt f fd) (T : TxtC mg) : FnOk P w K mg base CX0 1 f fd ["thing"] (spAsk K fInt) := by
  refine F.ok scIsInt (fun vs H Q E h => ?_) (fun cdv A outer s H vs Q E hr h => ?_)
  · obtain ⟨v, k, rfl, _⟩ := h
    rfl
  · obtain ⟨v, k, rfl, a, q⟩ := h
    obtain ⟨t, S⟩ := a.says
    refine ⟨_, pss_one (ps_ret (pe_and (pe_callB call_isA (by rfl) T.isi bootIsi (pa_cons (pv 0) (pa_cons (pe_bltn (v := .ty "int") (u := .type "int") (by rfl) T.int bInt rfl) pa_nil)))
      (pe_one (pe_not (pe_callB call_isA (by rfl) T.isi bootIsi (pa_cons (pv 0) (pa_cons (pe_bltn (v := .ty "bool") (u := .type "bool") (by rfl) T.bool bBool rfl) pa_nil))))))), ?_⟩
    refine ⟨_, rfl, v, .ty "int", t, .type "int", _, rfl, .ty _, S.ty, S.int, _, rfl, ?_⟩
    have q' := q H (Same.refl H)
    cases k with
    | int => exact iteT ⟨_, rfl, v, .ty "bool", t, .type "bool", _, rfl, .ty _, S.ty, S.bool, _, rfl, q'⟩
    | bl => exact iteT ⟨_, rfl, v, .ty "bool", t, .type "bool", _, rfl, .ty _, S.ty, S.bool, _, rfl, q'⟩
    | _ => exact iteF q'
theorem scIsNum : FnScope ["thing"] ["thing"] (defScope sIsNum) := ⟨rfl, rfl, rfl, by decide +kernel, rfl, by decide +kernel, by decide +kernel⟩
theorem ok_isNum {f fI : Addr} {fd fdI : FuncData} (F : Fun K "is_number" "is_number" sIsNum f fd) (FI : Fun K "is_integer" "is_integer" sIsInt fI fdI) (gI : mg "is_integer" = some (.ref fI)) (T : TxtC mg) : FnOk P w K mg base CX0 2 f fd ["thing"] (spAsk K (numFrom 0)) := by
  have GI : FnOk P w K mg base CX0 1 fI fdI ["thing"] (spAsk K fInt) := ok_isInt FI T
  have bI : Binds K fdI ["thing"] [] := FI.binds fun _ _ _ _ _ _ us hl => match us, hl with | [_], _ => rfl
  refine F.ok scIsNum (fun vs H Q E h => ?_) (fun cdv A outer s H vs Q E hr h => ?_)
  · obtain ⟨v, k, rfl, _⟩ := h
    rfl
  · obtain ⟨v, k, rfl, a, q⟩ := h
    refine ⟨_, pss_one (ps_ret (pe_and (pe_call GI hr (by rfl) gI FI.kp bI .nil pass0 (pa_cons (pv 0) pa_nil)) (pe_one (pe_cmpR op_ge (pv 0) pe_int (nomark _))))), ?_⟩
    refine ⟨_, rfl, v, k, rfl, a, fun H' e => ⟨_, rfl, ?_⟩⟩
    have q' := q H' e
    cases a with
    | int i => exact iteT ⟨_, rfl, i, 0, rfl, rfl, q'⟩
    | _ => exact iteF q'
theorem scIsList : FnScope ["thing"] ["thing"] (defScope sIsList) := ⟨rfl, rfl, rfl, by decide +kernel, rfl, by decide +kernel, by decide +kernel⟩
theorem ok_isList {f : Addr} {fd : FuncData} (F : Fun K "is_list" "is_list" sIsList f fd) (T : TxtC mg) : FnOk P w K mg base CX0 1 f fd ["thing"] (spAsk K fSeq) := by
  refine F.ok scIsList (fun vs H Q E h => ?_) (fun cdv A outer s H vs Q E hr h => ?_)
  · obtain ⟨v, k, rfl, _⟩ := h
    rfl
  · obtain ⟨v, k, rfl, a, q⟩ := h
    refine ⟨_, pss_one (ps_ret (pe_callB call_isAT (by rfl) T.isi bootIsi (pa_cons (pv 0) (pa_cons (pe_tup (pa_cons (pe_bltn (v := .ty "list") (u := .type "list") (by rfl) T.list bList rfl) (pa_cons (pe_bltn (v := .ty "tuple") (u := .type "tuple") (by rfl) T.tuple bTuple rfl) pa_nil))) pa_nil)))), ?_⟩
    refine ⟨_, rfl, by show 2 ≤ sizeLine; decide, fun tp htp => ?_⟩
    obtain ⟨t, S⟩ := (a.same (Same.new (u := .tup [.ty "list", .ty "tuple"]) htp)).says
    exact ⟨v, tp, _, t, _, _, rfl, upd_same, .cons (.ty _) (.cons (.ty _) .nil), S.ty, S.seq, q _ (Same.new htp)⟩
end
end OB
namespace OB
open PySem PySem.Spec PyProof.Rows L2
/-! ### an own error with a field, raised -/
theorem relO_one {v : V} {u : Value} (r : RelV v u) (f g : Str) : RelO (List.lookup g [(f, v)]) (if g = f then some u else none) := by
  by_cases e : g = f
  · subst e
    rw [if_pos rfl]
    have z : List.lookup g [(g, v)] = some v := by simp [List.lookup]
    rw [z]
    exact r
  · rw [if_neg e]
    have z1 : (g == f) = false := by simpa using e
    have z : List.lookup g [(f, v)] = none := by simp [List.lookup, z1]
    rw [z]
    trivial
def tMkE (C : Addr) (f : Str) (ta : TA) : L2.St → Hp → XK → Prop := fun σ H Q => ta σ H fun vs H1 => ∃ v, vs = [v] ∧ ∀ d, H1 d = none → Q (.ref C) (some d) (upd H1 d (.xd [(f, v)]))
section
variable {X : Cx} {C fI : Addr} {f x : Str} {k : Nat} {a : Expr} {ta : TA} {p pos : Pos}
theorem pmk_err (T : OE.Cl1 X.prog X.K C fI f) (B : OE.Bds f) (hr : Room (k + 1) X.A) (htop : (X.prog.main.scope.names.lookup ("super" : Str)).isSome = false) (hg : Gl X x) (hm : X.mg x = some (.ref C)) (hk : PySem.W.keepIn X.K (.ref C) = true)
    (ex : PySem.W.subIn X.K (.ref C) (.type "BaseException") = some true) (ty : PySem.W.typeIn X.K (.ref C) = some (.type "type")) (ha : PA X [a] ta) (hdb : (x == ("__debug__" : Str)) = false)
    (he : starEach [a] X.env = (false, eval a X.env) :: starEach [] X.env := by rfl) (hpl : (backTo pos (starEach [] X.env)).any (·.1) = false := by rfl) :
    PMk X (.Call (.Name x p) [a] [] pos) (tMkE C f ta) := by
  intro pins s σ H Q I h
  refine wpAny_Call_Name_kw (ld_glob I hg hm ?_ hdb)
  refine PySem.W.callWith_K (h₀ := X.base) I.ok.mod.kin hk (thn (ha.run pos pins s σ H _ I h) fun us s1 hh => ?_) he hpl
  obtain ⟨vs, H1, I1, r1, v, rfl, q1⟩ := hh
  refine ⟨I1.kIn, ?_⟩
  cases r1 with
  | @cons _ u _ _ rv rn =>
    cases rn
    show wpAny _ _ (call (.ref C) [u]) _ _ _
    obtain ⟨nm, qn, N, bs, bm, sn, sub, ab, col, dd, k0, k1, k2, k3, k5, hC, hbm⟩ := T.cls
    obtain ⟨mb, nb, hbi⟩ := I1.mod.blt
    have hlim := I1.mod.nolimit
    have bk0 := I1.bk
    obtain ⟨hp, g, dr, tk, os⟩ := s1
    have kp : ∀ b o, hp.get? b = some o → (OE.newHp hp C [u]).get? b = some o := fun b o e => Heap.get?_push_of_some _ (Heap.get?_push_of_some _ e)
    have bk : ∀ b o, X.base.get? b = some o → (OE.newHp hp C [u]).get? b = some o := fun b o e => kp b o (bk0 b o e)
    have ox : (OE.newHp hp C [u]).get? (hp.objs.size + 1) = some (PySem.HandSPX.excO C hp.objs.size) := by heap_get
    have nx : hp.get? (hp.objs.size + 1) = none := Heap.get?_none_of_le (Nat.le_succ _)
    have nK : X.K.lookup (hp.objs.size + 1) = none := by
      cases z : X.K.lookup (hp.objs.size + 1) with
      | none => rfl
      | some o =>
        have y : hp.get? _ = some o := I1.kIn _ _ z
        rw [nx] at y
        cases y
    refine wpAny_call (OE.call_any F.excBase_ValueError (fun Y => PySem.HandSPX.refsVE_contains Y bm hbm) (I1.kIn _ _ hC) (by show 1 ≤ sizeLine; rw [sizeLine_eq]; omega) (PySem.W.looks_findIn I1.kIn T.iC) (fun self => PySem.W.bind_fn I1.kIn self T.tC) ?_)
    refine OE.init1 T (x := hp.objs.size + 1) (t0 := hp.objs.size) (v := u) (I1.mod.kin.keeps bk) (I1.mod.glob.keeps bk) (nb.keeps bk) hbi htop (hlim.keeps bk) ox nK ?_ (fun fd h1 h2 h3 => BindsTo.of_eq (B fd h1 h2 h3 _ u).1) ?_
    · rw [make_depth]
      have := hr.dp
      omega
    · intro h' tk' d t1 M
      have k' : ∀ b o, hp.get? b = some o → h'.get? b = some o := fun b o e => M.keep b o (Nat.ne_of_lt (Nat.lt_succ_of_lt (Heap.lt_size e))) (kp b o e)
      have hsz : (OE.newHp hp C [u]).objs.size = hp.objs.size + 2 := by rw [OE.newHp, Heap.size_push, Heap.size_push]
      have db : (OE.newHp hp C [u]).objs.size ≤ d := M.dbig
      have db2 : hp.objs.size ≤ d := by omega
      have hns := M.ns
      refine ⟨rfl, ?_⟩
      show MkP X pins σ Q (.ref (hp.objs.size + 1)) ⟨h', g, dr, tk', os⟩
      obtain ⟨G', g1, g2⟩ := restrict h' fun b => decide (b ≠ hp.objs.size + 1)
      have gk : ∀ b, b ≠ hp.objs.size + 1 → G'.get? b = h'.get? b := fun b hb => g1 b (decide_eq_true hb)
      have ge : G'.get? (hp.objs.size + 1) = none := g2 _ (by simp)
      have old : ∀ b o, hp.get? b = some o → G'.get? b = some o := fun b o q => (gk b (Nat.ne_of_lt (Nat.lt_succ_of_lt (Heap.lt_size q)))).trans (k' b o q)
      have made : ObjOk X.prog X.w (upd H1 d (.xd [(f, v)])) G' d (.xd [(f, v)]) := ⟨_, hns.at (fun o q => (gk d M.dne).trans q), fun y => relO_one rv f y⟩
      have J : Inv X pins σ (upd H1 d (.xd [(f, v)])) ⟨G', g, dr, tk', os⟩ := I1.laid (t' := tk') old db2 made
      refine ⟨hp.objs.size + 1, _, _, ⟨G', g, dr, tk', os⟩, _, .ref C, some d, rfl, J, fun b o q => ?_, ge, M.obj, ⟨rfl, rfl⟩, rfl, rfl, ?_, rfl, I1.bare, raises_own ex ty, q1 d (I1.hok.fresh db2)⟩
      · by_cases hb : b = hp.objs.size + 1
        · have q' : G'.get? b = some o := q
          rw [hb, ge] at q'
          cases q'
        · exact (gk b hb).symm.trans q
      · rw [upd_ne (Ne.symm M.dne)]
        exact I1.hok.fresh (Nat.le_succ _)
end
end OB
namespace OB
open PySem PySem.Spec PyProof.Rows L2
open Sem (wp)
/-! ### enumerate over a tuple -/
theorem meets_en1 {v : Value} {o : Obj} {H : Heap → Prop} (B : Begins v o H) :
    Meets (Builtin.«enumerate.__new__» ⟨[.type "enumerate", v], []⟩) (fun _ R s => H s.heap ∧
      R (.ok (.ret (.ref (s.heap.push o).objs.size))) { s with heap := (s.heap.push o).push { cls := .type "enumerate", data := .fields #[.none, .bool false, .ref s.heap.objs.size, rawInt 0, .none, .none] } }) :=
  .of_wp fun prog w A R s hh => by
    obtain ⟨hp, gs, dr, tk, os⟩ := s
    obtain ⟨stands, fin⟩ := hh
    have isE := sub_enumerate
    have begin' : ∀ {A' : Around} {E : Value → Shared → Prop} {Q : Value → Shared → Prop}, Q (.ref hp.objs.size) ⟨hp.push o, gs, dr, tk, os⟩ → wpAny (model prog w) A' (pyIter v) Q E ⟨hp, gs, dr, tk, os⟩ := fun q => B.iter prog w _ _ ⟨hp, gs, dr, tk, os⟩ _ stands q
    wp_walk using begin'
    refine wpAny_stack_any fun st => wpAny_pure ?_
    split
    · rename_i c _ _ _ _ _
      cases (c == Value.type "enumerate") <;> (wp_walk using begin'; exact ⟨_, rfl, fin⟩)
    · wp_walk using begin'
      exact ⟨_, rfl, fin⟩
section
variable {prog : Program} {w : World} {A : Around} {E : Value → Shared → Prop} {s : Shared}
theorem call_en1 {v : Value} {o : Obj} {H : Heap → Prop} {Q : Value → Shared → Prop} (B : Begins v o H) (h1 : H s.heap)
    (fin : ∀ h', IsEnum h' (s.heap.objs.size + 1) s.heap.objs.size 0 .none → h'.get? s.heap.objs.size = some o → h'.objs.size = s.heap.objs.size + 2 → (∀ b o, s.heap.get? b = some o → h'.get? b = some o) → Q (.ref (s.heap.objs.size + 1)) { s with heap := h' }) :
    wpAny (model prog w) A (call (.type "enumerate") [v]) Q E s := by
  refine callType_new F.called_enumerate (by decide) (F.typeCall_enumerate_1 _) (F.newCall_enumerate_1 _) (fun obj => F.args_object_init_2 obj _) F.entry_enumerate_new (meets_en1 B) ⟨h1, ?_⟩
  have sz : (s.heap.push o).objs.size = s.heap.objs.size + 1 := Heap.size_push ..
  show _ ∧ _
  rw [sz]
  have isE : IsEnum ((s.heap.push o).push { cls := .type "enumerate", data := .fields #[.none, .bool false, .ref s.heap.objs.size, rawInt 0, .none, .none] }) (s.heap.objs.size + 1) s.heap.objs.size 0 .none := by
    have z := Heap.get?_push_size (s.heap.push o) (o := { cls := .type "enumerate", data := .fields #[.none, .bool false, .ref s.heap.objs.size, rawInt 0, .none, .none] }) rfl
    rw [sz] at z
    exact z
  exact ⟨⟨_, isE, rfl⟩, fin _ isE (Heap.get?_push_of_some _ (Heap.get?_push_size _ B.free)) (by rw [Heap.size_push, sz]) fun b o x => Heap.get?_push_of_some _ (Heap.get?_push_of_some _ x)⟩
end
/-- the tuple at a, each item in a new pair with its place -/
def IteT (K : PySem.W.Frag) (a : Addr) : It :=
  ⟨fun i H => ∃ (xs : List V) (x : V), SqT K H a xs ∧ xs[i]? = some x, fun i H v H' => ∃ T x, v = .ref T ∧ H T = none ∧ H' = upd H T (.tup [.int (i : Nat), x]) ∧ ∀ xs, SqT K H a xs → xs[i]? = some x, fun i H => ∃ xs : List V, SqT K H a xs ∧ xs.length = i⟩
theorem tup_ne {h : Heap} {a it : Addr} {items : Array Value} {i : Nat} (p : h.IsTuple a items) (q : h.IsTupleIter it a i) : a ≠ it := fun z => by
  obtain ⟨o, e, c, _⟩ := p
  obtain ⟨o2, e2, c2, _⟩ := q
  rw [z, e2] at e
  cases e
  rw [c2] at c
  exact absurd c (by decide)
theorem turn_enT {P : Program} {w : World} {K : PySem.W.Frag} {elts : List Expr} {kk : Nat} {tpos : Pos} (a e it : Addr) :
    Turn P w K (.Tuple elts kk tpos) (IteT K a) [e, it] e (fun i h => (∃ old, IsEnum h e it (0 + (i : Int)) old) ∧ h.IsTupleIter it a i ∧ e ≠ it) where
  mem := by simp
  obj := fun i h st b hb => by
    obtain ⟨⟨old, he⟩, ⟨o, ho, hc, hd⟩, _⟩ := st
    rcases (show b = e ∨ b = it by simpa using hb) with z | z
    · rw [z]
      exact ⟨_, he, fun v q => nomatch q⟩
    · rw [z]
      exact ⟨o, ho, fun v q => by rw [hd] at q; cases q⟩
  keep := fun i h h' st k => by
    obtain ⟨⟨old, he⟩, hi, hne⟩ := st
    exact ⟨⟨old, k e (by simp) _ he⟩, hi.at fun o q => k it (by simp) o q, hne⟩
  item := by
    intro X hP hw hK hc i pins s σ H E I hf st hg
    subst hP hw hK
    obtain ⟨⟨old, he⟩, hit, hne⟩ := st
    obtain ⟨xs, x, hq, hx⟩ := hg
    obtain ⟨its, rv, p, hz⟩ := I.tuple hq
    have p' : s.heap.IsTuple a its.toArray := p
    have ea : e ≠ a := fun z => by
      obtain ⟨o, eo, c, _⟩ := p'
      rw [← z, he] at eo
      cases eo
      exact absurd (show Value.type "enumerate" = Value.type "tuple" from c) (by decide)
    have D := Draws.tuple (prog := X.prog) (w := X.w) (A := X.A.in1) (I.ok.hd hc) it a (tup_ne p' hit) its.toArray
    have G := GoesN.enumFrom (elts := elts) (x1 := kk) (pos := tpos) 0 D e hne (by simp [hne, ea]) (by simp)
    have hi : i < its.toArray.size := by
      have l := rv.length
      have l2 : i < xs.length := (List.getElem?_eq_some_iff.mp hx).1
      simp
      omega
    have hlt : ∀ b ∈ [e, it], b < s.heap.objs.size := fun b hb => by
      rcases (show b = e ∨ b = it by simpa using hb) with z | z
      · rw [z]
        exact Heap.lt_size he
      · rw [z]
        obtain ⟨_, q, _⟩ := hit
        exact Heap.lt_size q
    refine G.goes i s _ _ hi ⟨⟨old, he⟩, hit, p'⟩ fun v h' tk hY st' hk htk => ?_
    obtain ⟨T, t, u, rfl, hT, hu, hTup⟩ := hY
    obtain ⟨⟨old', he'⟩, hit', _⟩ := st'
    have hu' : its[i]? = some u := by simpa using hu
    obtain ⟨u2, hu2, ru⟩ := rv.get hx
    rw [hu'] at hu2
    cases hu2
    obtain ⟨oT, eT, cT, nT, dT⟩ := hTup
    have new : ObjOk X.prog X.w (upd H T (.tup [.int (i : Nat), x])) h' T (.tup [.int (i : Nat), x]) :=
      ⟨by show 2 ≤ sizeLine; decide, [.int (0 + (i : Int)) t, u], .cons ⟨t, by rw [Int.zero_add]⟩ (.cons ru .nil), ⟨oT, eT, cT, nT, dT⟩⟩
    have I1 : Inv X pins σ (upd H T (.tup [.int (i : Nat), x])) { s with heap := h', toks := tk } := I.turnedNew (t' := tk) (ch := [e, it]) hk hf hT new
    exact ⟨.ref T, _, I1, rfl, ⟨T, x, rfl, I.hok.fresh hT, rfl, fun ys hy => by rw [I.tuple_inj hy hq]; exact hx⟩, ⟨⟨old', he'⟩, hit', hne⟩, fun b hb => by
      rw [upd_ne (Nat.ne_of_lt (Nat.lt_of_lt_of_le (hlt b hb) hT))]
      exact (hf b hb).1⟩
  done := by
    intro X hP hw hK hc i pins s σ H E I hf st hg
    subst hP hw hK
    obtain ⟨⟨old, he⟩, hit, hne⟩ := st
    obtain ⟨xs, hq, hx⟩ := hg
    obtain ⟨its, rv, p, hz⟩ := I.tuple hq
    have p' : s.heap.IsTuple a its.toArray := p
    have ea : e ≠ a := fun z => by
      obtain ⟨o, eo, c, _⟩ := p'
      rw [← z, he] at eo
      cases eo
      exact absurd (show Value.type "enumerate" = Value.type "tuple" from c) (by decide)
    have D := Draws.tuple (prog := X.prog) (w := X.w) (A := X.A.in1) (I.ok.hd hc) it a (tup_ne p' hit) its.toArray
    have G := GoesN.enumFrom (elts := elts) (x1 := kk) (pos := tpos) 0 D e hne (by simp [hne, ea]) (by simp)
    have hn : its.toArray.size = i := by
      have l := rv.length
      simp
      omega
    refine G.stops s _ _ (by rw [hn]; exact ⟨⟨old, he⟩, hit, p'⟩) fun h' tk hk htk => ?_
    exact I.turnedL (t' := tk) (ch := [e, it]) hk hf
  self := fun A i s Q E st h => by
    obtain ⟨⟨_, he⟩, _⟩ := st
    exact wpAny_pyIter_enum he h
def iEnT (K : PySem.W.Frag) (ta : TA) : TI := fun σ H R => ta σ H fun vs H1 => ∃ a xs, vs = [.ref a] ∧ ((SqL K H1 a xs ∧ R (Ite K a) H1) ∨ (SqT K H1 a xs ∧ R (IteT K a) H1))
theorem pi_enT {X : Cx} {e : Expr} {ta : TA} {p pos tpos : Pos} {elts : List Expr} {kk : Nat} (hg : Gl X "enumerate") (hm : X.mg "enumerate" = none) (ha : PA X [e] ta) (hs : starEach [e] X.env = [(false, eval e X.env)] := by rfl) :
    PI X (.Tuple elts kk tpos) (.Call (.Name "enumerate" p) [e] [] pos) (iEnT X.K ta) := by
  refine ⟨fun pins s σ H R I h => ?_⟩
  refine Call_ (ld_blt I hg hm boot_enumerate (PyProof.Rows.callWith_type1 (thn (ha.run pos pins s σ H _ I h) fun us s1 ⟨vs, H1, I1, r1, q1⟩ => ?_) hs rfl))
  obtain ⟨a, xs, rfl, q1⟩ := q1
  have fresh2 : ∀ b, b ∈ [s1.heap.objs.size + 1, s1.heap.objs.size] → FpOk X pins H1 b := fun b hb => by
    have le : s1.heap.objs.size ≤ b := by
      rcases (show b = s1.heap.objs.size + 1 ∨ b = s1.heap.objs.size by simpa using hb) with z | z <;> omega
    exact I1.fpOk le (I1.hok.fresh le)
  cases r1 with
  | cons r rr =>
    cases rr
    cases r
    rcases q1 with ⟨hq, q⟩ | ⟨hq, q⟩
    · obtain ⟨its, rv, p', hz⟩ := I1.list hq
      refine call_enumerate_list p'.isList fun h' he hit hsz hk => wpAny_pyIter_enum he ?_
      exact ⟨s1.heap.objs.size + 1, [s1.heap.objs.size + 1, s1.heap.objs.size], _, _, H1, rfl, I1.kept (t' := s1.toks) hk, turn_enum a (s1.heap.objs.size + 1) s1.heap.objs.size, ⟨⟨.none, he⟩, hit, Nat.succ_ne_self _⟩, fresh2, q⟩
    · obtain ⟨its, rv, p', hz⟩ := I1.tuple hq
      have pT : s1.heap.IsTuple a its.toArray := p'
      refine call_en1 (begins_tuple a its.toArray) pT fun h' he ho hsz hk => wpAny_pyIter_enum he ?_
      exact ⟨s1.heap.objs.size + 1, [s1.heap.objs.size + 1, s1.heap.objs.size], _, _, H1, rfl, I1.kept (t' := s1.toks) hk, turn_enT a (s1.heap.objs.size + 1) s1.heap.objs.size, ⟨⟨.none, he⟩, ⟨_, ho, rfl, rfl⟩, Nat.succ_ne_self _⟩, fresh2, q⟩
/-- a loop over enumerate of a tuple -/
theorem for_enT {K : PySem.W.Frag} {a : Addr} {xs : List V} {g : TG} {tb : TS} {D : Ends} {σ : L2.St} {H : Hp} (Pv : Nat → L2.St → Hp → Prop) (h0 : Pv 0 σ H) (hq : ∀ i σ H, Pv i σ H → SqT K H a xs)
    (hs : ∀ (i : Nat) (x : V) (T : Addr) (σ : L2.St) (H : Hp), xs[i]? = some x → Pv i σ H → H T = none → g (.ref T) σ (upd H T (.tup [.int (i : Nat), x])) fun σ2 H2 => tb { D with nx := Pv (i + 1), ct := Pv (i + 1), bk := D.nx } σ2 H2) (hd : ∀ σ H, Pv xs.length σ H → D.nx σ H) :
    ∃ W : Nat → Nat → L2.St → Hp → Prop, (∃ m, W 0 m σ H) ∧ ∀ i m σ H, W i m σ H →
      ((IteT K a).stop i H ∧ D.nx σ H) ∨ ((IteT K a).go i H ∧ ∃ N : L2.St → Hp → Prop, (∀ σ' H', N σ' H' → ∃ m', m' < m ∧ W (i + 1) m' σ' H') ∧ ∀ v H', (IteT K a).yld i H v H' → g v σ H' fun σ2 H2 => tb { D with nx := N, ct := N, bk := D.nx } σ2 H2) := by
  refine ⟨fun i m σ H => m = xs.length - i ∧ i ≤ xs.length ∧ Pv i σ H, ⟨xs.length, rfl, Nat.zero_le _, h0⟩, ?_⟩
  rintro i m σ H ⟨rfl, hi, p⟩
  have q := hq i σ H p
  by_cases hlt : i < xs.length
  · refine .inr ⟨⟨xs, xs[i], q, List.getElem?_eq_getElem hlt⟩, Pv (i + 1), fun σ' H' p' => ⟨xs.length - (i + 1), by omega, rfl, hlt, p'⟩, fun v H' y => ?_⟩
    obtain ⟨T, x, rfl, hT, rfl, hx⟩ := y
    exact hs i x T σ H (hx xs q) p hT
  · have e : i = xs.length := by omega
    subst e
    exact .inl ⟨⟨xs, q, rfl⟩, hd σ H p⟩
end OB
namespace OB
open PySem PySem.Spec PyProof.Rows L2
def SqX (tp : Bool) (K : PySem.W.Frag) (H : Hp) (b : Addr) (ys : List V) : Prop := match tp with
  | true => SqT K H b ys
  | false => SqL K H b ys
def AllAny (K : PySem.W.Frag) (H : Hp) (xs : List V) : Prop := ∀ x ∈ xs, ∃ k, Any K H x k
theorem AllAny.same {K : PySem.W.Frag} {H H' : Hp} {xs : List V} (h : AllAny K H xs) (e : Same H H') : AllAny K H' xs := fun x m => by
  obtain ⟨k, a⟩ := h x m
  exact ⟨k, a.same e⟩
theorem SqX.same {tp : Bool} {K : PySem.W.Frag} {H H' : Hp} {a : Addr} {xs : List V} (h : SqX tp K H a xs) (e : Same H H') : SqX tp K H' a xs := by
  cases tp with
  | true =>
    rcases h with (h | ⟨o, h⟩) | h
    · exact .inl (.inl (e _ _ h))
    · exact .inl (.inr ⟨o, e _ _ h⟩)
    · exact .inr h
  | false => exact e.seq h
/-- a loop over enumerate of a list that stays -/
theorem for_enL {K : PySem.W.Frag} {a : Addr} {xs : List V} {g : TG} {tb : TS} {D : Ends} {σ : L2.St} {H : Hp} (Pv : Nat → L2.St → Hp → Prop) (h0 : Pv 0 σ H) (hq : ∀ i σ H, Pv i σ H → SqL K H a xs)
    (hs : ∀ (i : Nat) (x : V) (T : Addr) (σ : L2.St) (H : Hp), xs[i]? = some x → Pv i σ H → H T = none → g (.ref T) σ (upd H T (.tup [.int (i : Nat), x])) fun σ2 H2 => tb { D with nx := Pv (i + 1), ct := Pv (i + 1), bk := D.nx } σ2 H2) (hd : ∀ σ H, Pv xs.length σ H → D.nx σ H) :
    ∃ W : Nat → Nat → L2.St → Hp → Prop, (∃ m, W 0 m σ H) ∧ ∀ i m σ H, W i m σ H →
      ((Ite K a).stop i H ∧ D.nx σ H) ∨ ((Ite K a).go i H ∧ ∃ N : L2.St → Hp → Prop, (∀ σ' H', N σ' H' → ∃ m', m' < m ∧ W (i + 1) m' σ' H') ∧ ∀ v H', (Ite K a).yld i H v H' → g v σ H' fun σ2 H2 => tb { D with nx := N, ct := N, bk := D.nx } σ2 H2) := by
  refine ⟨fun i m σ H => m = xs.length - i ∧ i ≤ xs.length ∧ Pv i σ H, ⟨xs.length, rfl, Nat.zero_le _, h0⟩, ?_⟩
  rintro i m σ H ⟨rfl, hi, p⟩
  have q := hq i σ H p
  by_cases hlt : i < xs.length
  · refine .inr ⟨⟨xs, xs[i], q, List.getElem?_eq_getElem hlt⟩, Pv (i + 1), fun σ' H' p' => ⟨xs.length - (i + 1), by omega, rfl, hlt, p'⟩, fun v H' y => ?_⟩
    obtain ⟨T, x, rfl, hT, rfl, hx⟩ := y
    exact hs i x T σ H (hx xs q) p hT
  · have e : i = xs.length := by omega
    subst e
    exact .inl ⟨⟨xs, q, Nat.le_refl _⟩, hd σ H p⟩
theorem SqX.or {tp : Bool} {K : PySem.W.Frag} {H : Hp} {p : Addr} {xs : List V} (h : SqX tp K H p xs) : SqL K H p xs ∨ SqT K H p xs := by
  cases tp with
  | true => exact .inr h
  | false => exact .inl h
def mkX (tp : Bool) (xs : List V) : HO := if tp = true then .tup xs else .lst xs
theorem SqX.new {tp : Bool} {K : PySem.W.Frag} {H : Hp} {p : Addr} {xs : List V} : SqX tp K (upd H p (mkX tp xs)) p xs := by
  cases tp with
  | true => exact SqT.of upd_same
  | false => exact SqL.of upd_same
def rIxX (K : PySem.W.Frag) : R2 := fun x y H Q => ∃ tp p xs i v, x = .ref p ∧ y = .int i ∧ SqX tp K H p xs ∧ atI xs i = some v ∧ Q v H
theorem ix_X {X : Cx} : IxR X (rIxX X.K) := by
  intro value slice pins s σ H x y v u Q I rx ry h hs
  obtain ⟨tp, p, xs, i, z, rfl, rfl, hq, he, q⟩ := h
  cases tp with
  | true => exact ix_tup value slice pins s σ H _ _ v u Q I rx ry ⟨p, xs, i, z, rfl, rfl, hq, he, q⟩ hs
  | false => exact ix_list value slice pins s σ H _ _ v u Q I rx ry ⟨p, xs, i, z, rfl, rfl, hq, he, q⟩ hs
def rSlQ (K : PySem.W.Frag) : V → Option Int → Option Int → Hp → VK → Prop := fun x lo hi H Q => ∃ tp a xs, x = .ref a ∧ SqX tp K H a xs ∧ ¬ (HT.sIx xs.length 0 lo = 0 ∧ HT.sIx xs.length xs.length hi = xs.length) ∧ ∀ p, H p = none → Q (.ref p) (upd H p (mkX tp (cutV xs lo hi)))
theorem sl_X {X : Cx} : SlR X (rSlQ X.K) := by
  intro pins s σ H x v vl vu lo hi sl Q I rx hs pl pu h
  obtain ⟨tp, a, xs, rfl, hx, nw, q⟩ := h
  cases tp with
  | true => exact sl_tup pins s σ H _ v vl vu lo hi sl Q I rx hs pl pu ⟨a, xs, rfl, hx, nw, q⟩
  | false => exact sl_list pins s σ H _ v vl vu lo hi sl Q I rx hs pl pu ⟨a, xs, rfl, hx, q⟩
theorem truX {tp : Bool} {K : PySem.W.Frag} {H : Hp} {p : Addr} {xs : List V} (h : SqX tp K H p xs) : TruV K (.ref p) H (!xs.isEmpty) := by
  cases tp with
  | true => exact .inr (.inl ⟨xs, h, rfl⟩)
  | false => exact .inl ⟨xs, h, rfl⟩
theorem any_sqx {K : PySem.W.Frag} {H : Hp} {v : V} {k : Kd} (h : Any K H v k) (e : fSeq v k = true) : ∃ tp p xs, v = .ref p ∧ H p = some (mkX tp xs) ∧ SqX tp K H p xs := by
  cases h with
  | lst q => exact ⟨false, _, _, rfl, q, SqL.of q⟩
  | tup q => exact ⟨true, _, _, rfl, q, SqT.of q⟩
  | _ => cases e
def ItX (tp : Bool) (K : PySem.W.Frag) (a : Addr) : It := match tp with
  | true => Itt K a
  | false => Itl K a
def iX (K : PySem.W.Frag) (tl : TE) : TI := fun σ H R => tl σ H fun x H1 => ∃ tp a xs, x = .ref a ∧ SqX tp K H1 a xs ∧ R (ItX tp K a) H1
section
variable {X : Cx}
theorem pi_X {tg l : Expr} {tl : TE} (hl : PE X l tl) : PI X tg l (iX X.K tl) := by
  refine ⟨fun pins s σ H R I h => thn (hl.run pins s σ H _ I h) fun v s1 ⟨x, H1, I1, r1, q1⟩ => ?_⟩
  obtain ⟨tp, a, xs, rfl, hq, q⟩ := q1
  cases r1
  cases tp with
  | true =>
    obtain ⟨its, rv, p, hz⟩ := I1.tuple hq
    exact wpAny_pyIter_tuple (show s1.heap.IsTuple a its.toArray from p) (pi_one (tk := s1.toks) I1 _ (turn_tuple a _) ⟨_, Heap.get?_push_size _ rfl, rfl, rfl⟩ q)
  | false =>
    obtain ⟨its, rv, p, hz⟩ := I1.list hq
    exact wpAny_pyIter_list p.isList (pi_one (tk := s1.toks) I1 _ (turn_list a _) ⟨_, Heap.get?_push_size _ rfl, rfl, rfl⟩ q)
theorem lc_X {tp : Bool} {K : PySem.W.Frag} {a : Addr} {xs : List V} {g : TG} {tt : TT} {te : TE} {vs : List Nat} {σ : L2.St} {H1 : Hp} {D : Addr} {Qd : Hp → Prop} (Pv : Nat → Hp → Prop) (h0 : Pv 0 (upd H1 D (.lst []))) (hl : ∀ i H, Pv i H → SqX tp K H a xs)
    (hs : ∀ i x H, xs[i]? = some x → Pv i H → g x (wipe σ vs) H fun σ2 H2 => wipe σ2 vs = wipe σ vs ∧ tt σ2 H2 fun b H3 => if b = true then te σ2 H3 fun y H4 => ∃ acc, H4 D = some (.lst acc) ∧ acc.length < sizeLine ∧ Pv (i + 1) (upd H4 D (.lst (acc ++ [y]))) else Pv (i + 1) H3)
    (hd : ∀ H, Pv xs.length H → Qd H) : ∃ W : Nat → Nat → Hp → Prop, (∃ m, W 0 m (upd H1 D (.lst []))) ∧ ∀ i m H, W i m H → ((ItX tp K a).stop i H ∧ Qd H) ∨ ((ItX tp K a).go i H ∧ ∃ Nx : Hp → Prop, (∀ H', Nx H' → ∃ m', m' < m ∧ W (i + 1) m' H') ∧ ∀ x H', (ItX tp K a).yld i H x H' →
      g x (wipe σ vs) H' fun σ2 H2 => wipe σ2 vs = wipe σ vs ∧ tt σ2 H2 fun b H3 => if b = true then te σ2 H3 fun y H4 => ∃ acc, H4 D = some (.lst acc) ∧ acc.length < sizeLine ∧ Nx (upd H4 D (.lst (acc ++ [y]))) else Nx H3) := by
  cases tp with
  | true => exact lc_tup Pv h0 (fun i H _ q => hl i H q) hs hd
  | false => exact lc_list Pv h0 (fun i H _ q => hl i H q) hs hd
end
theorem SqX.at {tp : Bool} {K : PySem.W.Frag} {H : Hp} {p : Addr} {xs : List V} (h : H p = some (mkX tp xs)) : SqX tp K H p xs := by
  cases tp with
  | true => exact SqT.of h
  | false => exact SqL.of h
structure TxtF (mg : Str → Option Value) : Prop where
  zip : mg "zip" = none
  set : mg "set" = none
  dict : mg "dict" = none
  any : mg "any" = none
end OB
namespace OB
open PySem PySem.Spec PyProof.Rows L2
/-! ### enumerate over a list or a tuple -/
def IteX (tp : Bool) (K : PySem.W.Frag) (a : Addr) : It := match tp with
  | true => IteT K a
  | false => Ite K a
def iEnX (K : PySem.W.Frag) (ta : TA) : TI := fun σ H R => ta σ H fun vs H1 => ∃ tp a xs, vs = [.ref a] ∧ SqX tp K H1 a xs ∧ R (IteX tp K a) H1
theorem pi_enX {X : Cx} {e : Expr} {ta : TA} {p pos tpos : Pos} {elts : List Expr} {kk : Nat} (hg : Gl X "enumerate") (hm : X.mg "enumerate" = none) (ha : PA X [e] ta) (hs : starEach [e] X.env = [(false, eval e X.env)] := by rfl) :
    PI X (.Tuple elts kk tpos) (.Call (.Name "enumerate" p) [e] [] pos) (iEnX X.K ta) := by
  refine ⟨fun pins s σ H R I h => ?_⟩
  refine Call_ (ld_blt I hg hm boot_enumerate (PyProof.Rows.callWith_type1 (thn (ha.run pos pins s σ H _ I h) fun us s1 ⟨vs, H1, I1, r1, q1⟩ => ?_) hs rfl))
  obtain ⟨tp, a, xs, rfl, hq, q⟩ := q1
  have fresh2 : ∀ b, b ∈ [s1.heap.objs.size + 1, s1.heap.objs.size] → FpOk X pins H1 b := fun b hb => by
    have le : s1.heap.objs.size ≤ b := by
      rcases (show b = s1.heap.objs.size + 1 ∨ b = s1.heap.objs.size by simpa using hb) with z | z <;> omega
    exact I1.fpOk le (I1.hok.fresh le)
  cases r1 with
  | cons r rr =>
    cases rr
    cases r
    cases tp with
    | false =>
      obtain ⟨its, rv, p', hz⟩ := I1.list hq
      refine call_enumerate_list p'.isList fun h' he hit hsz hk => wpAny_pyIter_enum he ?_
      exact ⟨s1.heap.objs.size + 1, [s1.heap.objs.size + 1, s1.heap.objs.size], _, _, H1, rfl, I1.kept (t' := s1.toks) hk, turn_enum a (s1.heap.objs.size + 1) s1.heap.objs.size, ⟨⟨.none, he⟩, hit, Nat.succ_ne_self _⟩, fresh2, q⟩
    | true =>
      obtain ⟨its, rv, p', hz⟩ := I1.tuple hq
      have pT : s1.heap.IsTuple a its.toArray := p'
      refine call_en1 (begins_tuple a its.toArray) pT fun h' he ho hsz hk => wpAny_pyIter_enum he ?_
      exact ⟨s1.heap.objs.size + 1, [s1.heap.objs.size + 1, s1.heap.objs.size], _, _, H1, rfl, I1.kept (t' := s1.toks) hk, turn_enT a (s1.heap.objs.size + 1) s1.heap.objs.size, ⟨⟨.none, he⟩, ⟨_, ho, rfl, rfl⟩, Nat.succ_ne_self _⟩, fresh2, q⟩
theorem walk_enX {tp : Bool} {K : PySem.W.Frag} {a : Addr} {xs : List V} : Walk (IteX tp K a) xs.length (fun H => SqX tp K H a xs) (YPair (fun i => some (.int (i : Nat))) (fun i => xs[i]?)) := by
  cases tp with
  | false => exact walk_enum
  | true =>
    refine ⟨fun i _ hi q => ⟨xs, xs[i], q, by simp [hi]⟩, fun _ q => ⟨xs, q, rfl⟩, fun i H v H' _ q y => ?_⟩
    obtain ⟨T, x, h1, h2, h3, h4⟩ := y
    exact ⟨T, .int (i : Nat), x, h1, h2, h3, rfl, h4 xs q⟩
theorem walk_X {tp : Bool} {K : PySem.W.Frag} {a : Addr} {xs : List V} : Walk (ItX tp K a) xs.length (fun H => SqX tp K H a xs) (YAt xs) := by
  cases tp with
  | false => exact walk_list
  | true => exact walk_tup
/-! ### stays -/
abbrev S3 : Type := Int × Int × Int
def stayOf (xs : List V) : Option S3 := match xs with
  | [.int b, .int e, .int l] => if 0 ≤ b ∧ 0 ≤ e ∧ 0 ≤ l ∧ b ≤ e then some (b, e, l) else none
  | _ => none
/-- any object, and the stay that it is -/
inductive Thing (K : PySem.W.Frag) (H : Hp) : V → Option S3 → Prop where
  | seq {tp : Bool} {a : Addr} {xs : List V} : H a = some (mkX tp xs) → AllAny K H xs → xs.length < 1000 → Thing K H (.ref a) (stayOf xs)
  | no {v : V} {k : Kd} : Any K H v k → fSeq v k = false → Thing K H v none
theorem Thing.same {K : PySem.W.Frag} {H H' : Hp} {v : V} {r : Option S3} (h : Thing K H v r) (e : Same H H') : Thing K H' v r := by
  cases h with
  | seq h a l => exact .seq (e _ _ h) (a.same e) l
  | no h f => exact .no (h.same e) f
theorem Thing.any {K : PySem.W.Frag} {H : Hp} {v : V} {r : Option S3} (h : Thing K H v r) : ∃ k, Any K H v k := by
  cases h with
  | @seq tp a xs h _ _ =>
    cases tp with
    | true => exact ⟨.tup, .tup h⟩
    | false => exact ⟨.lst, .lst h⟩
  | no h _ => exact ⟨_, h⟩
/-- a stay as a list or a tuple -/
def LSt (H : Hp) (v : V) (s : S3) : Prop := ∃ (tp : Bool) (t : Addr), v = .ref t ∧ H t = some (mkX tp [.int s.1, .int s.2.1, .int s.2.2])
def St (H : Hp) (v : V) (s : S3) : Prop := ∃ t : Addr, v = .ref t ∧ H t = some (.tup [.int s.1, .int s.2.1, .int s.2.2])
def GoodS (s : S3) : Prop := 0 ≤ s.1 ∧ s.1 ≤ s.2.1 ∧ 0 ≤ s.2.2
def Good (ss : List S3) : Prop := ∀ s ∈ ss, GoodS s
theorem St.l {H : Hp} {v : V} {s : S3} (h : St H v s) : LSt H v s := by
  obtain ⟨t, e, h⟩ := h
  exact ⟨true, t, e, h⟩
theorem St.same {H H' : Hp} {v : V} {s : S3} (h : St H v s) (e : Same H H') : St H' v s := by
  obtain ⟨t, z, h⟩ := h
  exact ⟨t, z, e _ _ h⟩
theorem LSt.same {H H' : Hp} {v : V} {s : S3} (h : LSt H v s) (e : Same H H') : LSt H' v s := by
  obtain ⟨tp, t, z, h⟩ := h
  exact ⟨tp, t, z, e _ _ h⟩
theorem LSt.thing {K : PySem.W.Frag} {H : Hp} {v : V} {s : S3} (h : LSt H v s) (g : GoodS s) : Thing K H v (some s) := by
  obtain ⟨tp, t, rfl, h⟩ := h
  obtain ⟨b, e, l⟩ := s
  obtain ⟨g1, g2, g3⟩ := g
  have z : stayOf [.int b, .int e, .int l] = some (b, e, l) := if_pos ⟨g1, by show 0 ≤ e; exact Int.le_trans g1 g2, g3, g2⟩
  rw [← z]
  refine .seq h (fun x m => ?_) (by show 3 < 1000; decide)
  rcases List.mem_cons.mp m with rfl | m
  · exact ⟨_, .int _⟩
  rcases List.mem_cons.mp m with rfl | m
  · exact ⟨_, .int _⟩
  rcases List.mem_cons.mp m with rfl | m
  · exact ⟨_, .int _⟩
  · cases m
theorem Paired.imp {α β : Type} {F G : α → β → Prop} (h : ∀ x y, F x y → G x y) : ∀ {xs : List α} {ys : List β}, Paired F xs ys → Paired G xs ys
  | _, _, .nil => .nil
  | _, _, .cons r t => .cons (h _ _ r) (Paired.imp h t)
theorem Paired.at {α β : Type} {F : α → β → Prop} : ∀ {xs : List α} {ys : List β} {i : Nat} {x : α}, Paired F xs ys → xs[i]? = some x → ∃ y, ys[i]? = some y ∧ F x y
  | _, _, 0, _, .cons r _, h => ⟨_, rfl, by cases h; exact r⟩
  | _, _, i + 1, x, .cons _ t, h => Paired.at (i := i) t h
theorem Paired.map {α β γ : Type} {F : α → γ → Prop} {f : β → γ} : ∀ {xs : List α} {ys : List β}, Paired (fun x y => F x (f y)) xs ys → Paired F xs (ys.map f)
  | _, _, .nil => .nil
  | _, _, .cons r t => .cons r (Paired.map t)
theorem Paired.unmap {α β γ : Type} {F : α → γ → Prop} {f : β → γ} : ∀ {xs : List α} {ys : List β}, Paired F xs (ys.map f) → Paired (fun x y => F x (f y)) xs ys
  | _, [], .nil => .nil
  | _, _ :: _, .cons r t => .cons r (Paired.unmap t)
theorem Paired.take {α β : Type} {F : α → β → Prop} : ∀ {xs : List α} {ys : List β} (n : Nat), Paired F xs ys → Paired F (xs.take n) (ys.take n)
  | _, _, 0, _ => by simpa using Paired.nil
  | _, _, _ + 1, .nil => .nil
  | _, _, n + 1, .cons r t => .cons r (Paired.take n t)
theorem Paired.drop {α β : Type} {F : α → β → Prop} : ∀ {xs : List α} {ys : List β} (n : Nat), Paired F xs ys → Paired F (xs.drop n) (ys.drop n)
  | _, _, 0, h => h
  | _, _, _ + 1, .nil => .nil
  | _, _, n + 1, .cons r t => Paired.drop n t
theorem Paired.app {α β : Type} {F : α → β → Prop} : ∀ {xs : List α} {ys : List β} {us : List α} {vs : List β}, Paired F xs ys → Paired F us vs → Paired F (xs ++ us) (ys ++ vs)
  | _, _, _, _, .nil, h => h
  | _, _, _, _, .cons r t, h => .cons r (Paired.app t h)
/-- at a a list of stays, tuples -/
def Row (H : Hp) (a : Addr) (ss : List S3) : Prop := ∃ vs, H a = some (.lst vs) ∧ Paired (St H) vs ss
/-- at a a list or a tuple of such -/
def LRow (H : Hp) (a : Addr) (ss : List S3) : Prop := ∃ tp vs, H a = some (mkX tp vs) ∧ Paired (LSt H) vs ss
theorem Row.same {H H' : Hp} {a : Addr} {ss : List S3} (h : Row H a ss) (e : Same H H') : Row H' a ss := by
  obtain ⟨vs, h1, h2⟩ := h
  exact ⟨vs, e _ _ h1, Paired.imp (fun _ _ z => St.same z e) h2⟩
theorem LRow.same {H H' : Hp} {a : Addr} {ss : List S3} (h : LRow H a ss) (e : Same H H') : LRow H' a ss := by
  obtain ⟨tp, vs, h1, h2⟩ := h
  exact ⟨tp, vs, e _ _ h1, Paired.imp (fun _ _ z => LSt.same z e) h2⟩
theorem Row.l {H : Hp} {a : Addr} {ss : List S3} (h : Row H a ss) : LRow H a ss := by
  obtain ⟨vs, h1, h2⟩ := h
  exact ⟨false, vs, h1, Paired.imp (fun _ _ z => St.l z) h2⟩
theorem LRow.things {K : PySem.W.Frag} {H : Hp} {a : Addr} {ss : List S3} (h : LRow H a ss) (g : Good ss) : ∃ tp vs, H a = some (mkX tp vs) ∧ Paired (Thing K H) vs (ss.map some) := by
  obtain ⟨tp, vs, h1, h2⟩ := h
  refine ⟨tp, vs, h1, Paired.map ?_⟩
  clear h1
  induction h2 with
  | nil => exact .nil
  | cons r t ih => exact .cons (LSt.thing r (g _ (List.mem_cons_self ..))) (ih fun s m => g s (List.mem_cons_of_mem _ m))
end OB
namespace OB
open PySem PySem.Spec PyProof.Rows L2
abbrev sFirst : Stmt := top 5
abbrev sIsStay : Stmt := top 16
def numV (x : V) : Bool := match x with
  | .int i => decide (0 ≤ i)
  | _ => false
theorem numV_eq (x : V) (k : Kd) : numFrom 0 x k = numV x := by cases x <;> rfl
theorem stayOf_len {xs : List V} (h : xs.length ≠ 3) : stayOf xs = none := by
  unfold stayOf
  split
  · exact absurd rfl h
  · rfl
theorem stayOf_num {xs : List V} (h : xs.all numV = false) : stayOf xs = none := by
  unfold stayOf
  split
  · rename_i b e l
    by_cases g : 0 ≤ b ∧ 0 ≤ e ∧ 0 ≤ l ∧ b ≤ e
    · have : ([.int b, .int e, .int l] : List V).all numV = true := by simp [numV, g.1, g.2.1, g.2.2.1]
      rw [this] at h
      cases h
    · exact if_neg g
  · rfl
def spIsStay (K : PySem.W.Frag) : Sp := fun vs H Q _ => ∃ (v : V) (r : Option S3), vs = [v] ∧ Thing K H v r ∧ ∀ H', Same H H' → Q (.bl r.isSome) H'
section
variable {P : Program} {w : World} {K : PySem.W.Frag} {mg : Str → Option Value} {base : Heap}
theorem scIsStay : FnScope ["thing", "part"] ["thing"] (defScope sIsStay) := ⟨rfl, rfl, rfl, by decide +kernel, rfl, by decide +kernel, by decide +kernel⟩
theorem ok_isStay {f fL fN : Addr} {fd fdL fdN : FuncData} (F : Fun K "is_stay" "is_stay" sIsStay f fd) (T : TxtC mg)
    (GL : FnOk P w K mg base CX0 1 fL fdL ["thing"] (spAsk K fSeq)) (gL : mg "is_list" = some (.ref fL)) (kL : PySem.W.keepIn K (.ref fL) = true) (bL : Binds K fdL ["thing"] [])
    (GN : FnOk P w K mg base CX0 2 fN fdN ["thing"] (spAsk K (numFrom 0))) (gN : mg "is_number" = some (.ref fN)) (kN : PySem.W.keepIn K (.ref fN) = true) (bN : Binds K fdN ["thing"] []) : FnOk P w K mg base CX0 3 f fd ["thing"] (spIsStay K) := by
  refine F.ok scIsStay (fun vs H Q E h => ?_) (fun cdv A outer s H vs Q E hr h => ?_)
  · obtain ⟨v, r, rfl, _⟩ := h
    rfl
  · obtain ⟨v, r, rfl, hv, q⟩ := h
    have nd := scIsStay.nd
    have hr1 := hr.mono (show 1 ≤ 2 by decide)
    refine ⟨_, pss_cons (ps_if (PW.pt (pw_or (pt_not (pt_val (pe_call GL hr1 (by rfl) gL kL bL .nil pass0 (pa_cons (pv 0) pa_nil)))) (pw_or (pt_cmpR op_ne (pe_callB call_len_seq (by rfl) T.len PySem.boot_len (pa_cons (pv 0) pa_nil)) pe_int (nomark _))
        (pw_or1 (pt_not (pt_val (pe_callB (cr_all rfl) (by rfl) T.all (by decide +kernel) (pa_cons (pe_lc (own := [("part", 1)]) (g := gName 1) (tt := tYes) rfl nd (pi_X (pv 0)) (blkOk_by (N := ["thing", "part"]) (sc := defScope sIsStay) (by decide +kernel))
          (fun _ _ _ _ _ => pg_name (i := 1) nd rfl (Or.inl rfl)) (fun _ _ _ _ _ => pts_nil) (fun _ _ _ _ _ => pe_call GN hr (by rfl) gN kN bN .nil pass0 (pa_cons (pv 1) pa_nil))) pa_nil))))))))
        (pss_one (ps_ret pe_bl)) pss_nil)
      (pss_one (ps_ret (pe_cmpR op_le (pe_ix ix_X (pv 0) pe_int (fun _ _ => rfl)) (pe_ix ix_X (pv 0) pe_int (fun _ _ => rfl)) (nomark _)))), ?_⟩
    cases hv with
    | @no v k h hf =>
      refine ⟨_, rfl, v, k, rfl, h, fun H1 e1 => ⟨_, rfl, ?_⟩⟩
      rw [hf]
      exact iteT (q _ e1)
    | @seq tp a xs h ax hl =>
      obtain ⟨k, av, hf⟩ : ∃ k, Any K H (.ref a) k ∧ fSeq (.ref a) k = true := by
        cases tp with
        | true => exact ⟨.tup, .tup h, rfl⟩
        | false => exact ⟨.lst, .lst h, rfl⟩
      refine ⟨_, rfl, _, k, rfl, av, fun H1 e1 => ⟨_, rfl, ?_⟩⟩
      rw [hf]
      have h1 := e1 _ _ h
      have sx : SqX tp K H1 a xs := SqX.at h1
      refine iteF ⟨_, rfl, a, xs, rfl, sx.or, rfl, _, rfl, ?_⟩
      refine ite2 (fun hn => ?_) (fun hn => ?_)
      · have h3 : xs.length ≠ 3 := fun z => by
          rw [z] at hn
          simp at hn
        rw [stayOf_len h3] at q
        exact q _ e1
      · have h3 : xs.length = 3 := by
          by_cases z : xs.length = 3
          · exact z
          · exfalso
            apply hn
            have ne : decide (V.int (xs.length : Nat) = V.int 3) = false := decide_eq_false fun y => z (by
              have := V.int.inj y
              omega)
            rw [ne] <;> rfl
        refine ⟨_, rfl, tp, a, xs, rfl, sx, fun D nD => ?_⟩
        have lm : ((xs.map numV).map V.bl).length = xs.length := by simp
        have nA : ∀ {i : Nat} {G : Hp}, AccP D H1 (mapTo ((xs.map numV).map V.bl)) i G → SqX tp K G a xs := fun z => SqX.same sx (acc_same z (Same.refl H1) nD)
        refine lc_it walk_X (AccP D H1 (mapTo ((xs.map numV).map V.bl))) (acc_start rfl) (fun i G _ z => nA z) (fun i x G G' hi z y => ?_) (fun G z => ?_)
        · obtain ⟨rfl, hx⟩ := y
          refine ⟨rfl, ?_⟩
          dsimp only [tYes]
          rw [if_pos rfl]
          obtain ⟨kx, bx⟩ := ax x (List.mem_of_getElem? hx)
          refine ⟨_, rfl, x, kx, rfl, (bx.same e1).same (acc_same z (Same.refl H1) nD), fun G2 e2 => ?_⟩
          rw [numV_eq]
          exact acc_in z e2 (mapTo_len (by rw [lm, sizeLine_eq]; omega)) (mapTo_succ (by rw [List.getElem?_map, List.getElem?_map, hx] <;> rfl))
        · rw [← lm] at z
          have gD : G D = some (.lst ((xs.map numV).map V.bl)) := by rw [z.2, mapTo_all]
          have e2 : Same H G := acc_same z e1 nD
          refine ⟨D, xs.map numV, rfl, SqL.of gD, _, rfl, ?_⟩
          have al : (xs.map numV).all id = xs.all numV := by rw [List.all_map] <;> rfl
          rw [al]
          cases hall : xs.all numV with
          | false =>
            rw [stayOf_num hall] at q
            exact q _ e2
          | true =>
            obtain ⟨x0, x1, x2, rfl⟩ : ∃ x0 x1 x2, xs = [x0, x1, x2] := by
              match xs, h3 with
              | [x0, x1, x2], _ => exact ⟨x0, x1, x2, rfl⟩
            simp only [List.all_cons, List.all_nil, Bool.and_true, Bool.and_eq_true] at hall
            obtain ⟨n0, n1, n2⟩ := hall
            have num : ∀ {x : V}, numV x = true → ∃ i : Int, x = .int i ∧ 0 ≤ i := fun {x} h => by
              cases x with
              | int i => exact ⟨i, rfl, of_decide_eq_true h⟩
              | _ => cases h
            obtain ⟨b, rfl, b0⟩ := num n0
            obtain ⟨e, rfl, e0⟩ := num n1
            obtain ⟨l, rfl, l0⟩ := num n2
            have sx2 : SqX tp K G a [.int b, .int e, .int l] := SqX.same sx (acc_same z (Same.refl H1) nD)
            have val : (stayOf [.int b, .int e, .int l]).isSome = decide (b ≤ e) := by
              show (if 0 ≤ b ∧ 0 ≤ e ∧ 0 ≤ l ∧ b ≤ e then some (b, e, l) else none).isSome = _
              by_cases g : b ≤ e
              · rw [if_pos ⟨b0, e0, l0, g⟩, decide_eq_true g] <;> rfl
              · rw [if_neg (fun z => g z.2.2.2), decide_eq_false g] <;> rfl
            rw [val] at q
            exact ⟨_, rfl, tp, a, _, ((0 : Nat) : Int), .int b, rfl, rfl, sx2, atI_nat rfl, _, rfl, tp, a, _, ((1 : Nat) : Int), .int e, rfl, rfl, sx2, atI_nat rfl, b, e, rfl, rfl, q _ e2⟩
/-! ### the first that is no stay -/
/-- the index told of the first none -/
def fstV (rs : List (Option S3)) : V := match rs.findIdx? (fun r => r.isNone) with
  | some i => .int (i : Nat)
  | none => .non
def spFirst (K : PySem.W.Frag) (g : Addr) : Sp := fun vs H Q _ => ∃ (v : V), vs = [v, .ref g] ∧ ((∃ k, Any K H v k ∧ fSeq v k = false ∧ ∀ H', Same H H' → Q (.int 0) H') ∨
  (∃ (a : Addr) (tp : Bool) (xs : List V) (rs : List (Option S3)), v = .ref a ∧ H a = some (mkX tp xs) ∧ Paired (Thing K H) xs rs ∧ xs.length < 1000 ∧ ∀ H', Same H H' → Q (fstV rs) H'))
theorem scFirst : FnScope ["things", "is_right", "index", "thing"] ["things", "is_right"] (defScope sFirst) := ⟨rfl, rfl, rfl, by decide +kernel, rfl, by decide +kernel, by decide +kernel⟩
theorem ok_first {f fL fS : Addr} {fd fdL fdS : FuncData} (F : Fun K "first_wrong" "first_wrong" sFirst f fd) (T : TxtC mg) (en : mg "enumerate" = none)
    (GL : FnOk P w K mg base CX0 1 fL fdL ["thing"] (spAsk K fSeq)) (gL : mg "is_list" = some (.ref fL)) (kL : PySem.W.keepIn K (.ref fL) = true) (bL : Binds K fdL ["thing"] [])
    (GS : FnOk P w K mg base CX0 3 fS fdS ["thing"] (spIsStay K)) (kS : PySem.W.keepIn K (.ref fS) = true) (bS : Binds K fdS ["thing"] []) : FnOk P w K mg base CX0 4 f fd ["things", "is_right"] (spFirst K fS) := by
  refine F.ok scFirst (fun vs H Q E h => ?_) (fun cdv A outer s H vs Q E hr h => ?_)
  · obtain ⟨v, rfl, _⟩ := h
    rfl
  · obtain ⟨v, rfl, h⟩ := h
    have nd := scFirst.nd
    have hr1 := hr.mono (show 1 ≤ 3 by decide)
    refine ⟨_, pss_cons (ps_if (pt_not (pt_val (pe_call GL hr1 (by rfl) gL kL bL .nil pass0 (pa_cons (pv 0) pa_nil)))) (pss_one (ps_ret pe_int)) pss_nil)
      (pss_cons (ps_for PassesOwn.never rfl (pi_enX (by rfl) en (pa_cons (pv 0) pa_nil)) (pg_tup rfl (pgs_cons (pg_name (i := 2) nd rfl (Or.inl rfl)) (pgs_cons (pg_name (i := 3) nd rfl (Or.inl rfl)) pgs_nil)))
        (pss_one (ps_if (pt_not (pt_val (pe_callL (i := 1) GS hr rfl (Or.inl rfl) kS bS .nil pass0 (pa_cons (pv 3) pa_nil)))) (pss_one (ps_ret (pv 2))) pss_nil)))
      (pss_one (ps_ret pe_non))), ?_⟩
    rcases h with ⟨k, h, hf, q⟩ | ⟨a, tp, xs, rs, rfl, h, hp, hl, q⟩
    · refine ⟨_, rfl, v, k, rfl, h, fun H1 e1 => ⟨_, rfl, ?_⟩⟩
      rw [hf]
      exact iteT (q _ e1)
    · obtain ⟨k, av, hf⟩ : ∃ k, Any K H (.ref a) k ∧ fSeq (.ref a) k = true := by
        cases tp with
        | true => exact ⟨.tup, .tup h, rfl⟩
        | false => exact ⟨.lst, .lst h, rfl⟩
      refine ⟨_, rfl, _, k, rfl, av, fun H1 e1 => ⟨_, rfl, ?_⟩⟩
      rw [hf]
      refine iteF ⟨_, rfl, tp, a, xs, rfl, SqX.at (e1 _ _ h), ?_⟩
      have ll := hp.length
      refine for_it walk_enX (fun i σ G => (∃ s2 s3 : Option V, σ = [some (.ref a), some (.ref fS), s2, s3]) ∧ Same H G ∧ ∀ j, j < i → ∀ r, rs[j]? = some r → r.isNone = false) ⟨⟨_, _, rfl⟩, e1, fun j hj => absurd hj (Nat.not_lt_zero j)⟩ (fun i σ G _ z => SqX.at (z.2.1 _ _ h)) (fun i x σ G G' hi z y => ?_) (fun σ G z => ?_)
      · obtain ⟨⟨s2, s3, rfl⟩, e2, hj⟩ := z
        obtain ⟨TT, x1, x2, rfl, hT, rfl, hx, hy⟩ := y
        obtain rfl : V.int (i : Nat) = x1 := Option.some.inj hx
        have hy : xs[i]? = some x2 := hy
        obtain ⟨r, hr2, th⟩ := Paired.at hp hy
        refine ⟨TT, _, rfl, SqT.of upd_same, rfl, .int (i : Nat), _, rfl, x2, _, rfl, rfl, rfl, _, rfl, x2, r, rfl, (th.same e2).same (Same.new hT), fun G2 e3 => ⟨_, rfl, ?_⟩⟩
        have e4 : Same H G2 := (e2.trans (Same.new hT)).trans e3
        cases hz : r with
        | none =>
          subst hz
          refine iteT ⟨_, rfl, ?_⟩
          have v : fstV rs = .int (i : Nat) := by
            unfold fstV
            have z : rs.findIdx? (fun r => r.isNone) = some i := by
              rw [List.findIdx?_eq_some_iff_getElem]
              obtain ⟨h1, h2⟩ := List.getElem?_eq_some_iff.mp hr2
              refine ⟨h1, by rw [h2] <;> rfl, fun j hji => ?_⟩
              have := hj j hji _ (List.getElem?_eq_getElem (by omega))
              rw [this] <;> decide
            rw [z]
          rw [← v]
          exact q _ e4
        | some s =>
          subst hz
          refine iteF ⟨⟨_, _, rfl⟩, e4, fun j hj2 r hr3 => ?_⟩
          by_cases z : j = i
          · rw [z, hr2] at hr3
            rw [← Option.some.inj hr3] <;> rfl
          · exact hj j (by omega) r hr3
      · obtain ⟨⟨s2, s3, rfl⟩, e2, hj⟩ := z
        have v : fstV rs = .non := by
          unfold fstV
          have z : rs.findIdx? (fun r => r.isNone) = none := by
            rw [List.findIdx?_eq_none_iff]
            intro r m
            obtain ⟨j, hj1, hj2⟩ := List.getElem_of_mem m
            exact hj j (by omega) r (by rw [List.getElem?_eq_getElem hj1, hj2])
          rw [z]
        rw [v] at q
        exact q _ e2
end
end OB
namespace OB
open PySem PySem.Spec PyProof.Rows L2
def rTupOf (K : PySem.W.Frag) : List V → Hp → VK → Prop := fun xs H Q => ∃ p ys, xs = [V.ref p] ∧ ((SqL K H p ys ∧ ∀ l, H l = none → Q (.ref l) (upd H l (.tup ys))) ∨ (SqT K H p ys ∧ Q (.ref p) H))
theorem call_tupK {X : Cx} {K : PySem.W.Frag} (h : X.K = K) : CallR X (.type "tuple") (rTupOf K) := by
  subst h
  exact call_tuple_of
theorem ix_XK {X : Cx} {K : PySem.W.Frag} (h : X.K = K) : IxR X (rIxX K) := by
  subst h
  exact ix_X
/-- what an own error class with a field says -/
structure ErrK (P : Program) (K : PySem.W.Frag) (mg : Str → Option Value) (x : Str) (C fI : Addr) (f : Str) : Prop where
  T : OE.Cl1 P K C fI f
  B : OE.Bds f
  g : mg x = some (.ref C)
  k : PySem.W.keepIn K (.ref C) = true
  ex : PySem.W.subIn K (.ref C) (.type "BaseException") = some true
  ty : PySem.W.typeIn K (.ref C) = some (.type "type")
abbrev sTold : Stmt := top 17
abbrev sMany : Stmt := top 18
/-- the error of the class at C, keeping v as f -/
def Bad (E : XK) (H : Hp) (C : Addr) (f : Str) (v : V) : Prop := ∀ H' d, Same H H' → H d = none → H' d = some (.xd [(f, v)]) → E (.ref C) (some d) H'
theorem Bad.same {E : XK} {H H' : Hp} {C : Addr} {f : Str} {v : V} (h : Bad E H C f v) (e : Same H H') : Bad E H' C f v := fun G d e2 n g => h G d (e.trans e2) (e.free n) g
theorem Bad.raise {E : XK} {H : Hp} {C : Addr} {f : Str} {v : V} (h : Bad E H C f v) : ∀ d, H d = none → E (.ref C) (some d) (upd H d (.xd [(f, v)])) := fun d n => h _ d (Same.new n) n upd_same
def spTold (K : PySem.W.Frag) (CS : Addr) : Sp := fun vs H Q E => ∃ (v : V), vs = [v] ∧ ((∃ k, Any K H v k ∧ fSeq v k = false ∧ Bad E H CS "index" (.int 0)) ∨
  (∃ (a : Addr) (tp : Bool) (xs : List V) (rs : List (Option S3)), v = .ref a ∧ H a = some (mkX tp xs) ∧ Paired (Thing K H) xs rs ∧ xs.length < 1000 ∧ (∀ i, rs.findIdx? (fun r => r.isNone) = some i → Bad E H CS "index" (.int (i : Nat))) ∧
    ∀ ss : List S3, rs = ss.map some → ∀ H' D, Same H H' → H D = none → Row H' D ss → Q (.ref D) H'))
theorem none_all : ∀ {rs : List (Option S3)}, rs.findIdx? (fun r => r.isNone) = none → ∃ ss : List S3, rs = ss.map some
  | [], _ => ⟨[], rfl⟩
  | r :: rs, h => by
    rw [List.findIdx?_eq_none_iff] at h
    obtain ⟨ss, e⟩ := none_all (rs := rs) (by rw [List.findIdx?_eq_none_iff]; exact fun x m => h x (List.mem_cons_of_mem _ m))
    have z := h r (List.mem_cons_self ..)
    cases r with
    | none => cases z
    | some s => exact ⟨s :: ss, by rw [e] <;> rfl⟩
theorem stay_tup {K : PySem.W.Frag} {H : Hp} {v : V} {s : S3} (h : Thing K H v (some s)) : GoodS s ∧ ∃ tp t, v = .ref t ∧ H t = some (mkX tp [.int s.1, .int s.2.1, .int s.2.2]) := by
  generalize hr : (some s : Option S3) = r at h
  cases h with
  | @seq tp a xs h _ _ =>
    unfold stayOf at hr
    split at hr
    · rename_i b e l
      split at hr
      · rename_i g
        cases hr
        exact ⟨⟨g.1, g.2.2.2, g.2.2.1⟩, tp, a, rfl, h⟩
      · cases hr
    · cases hr
  | no _ _ => cases hr
section
variable {P : Program} {w : World} {K : PySem.W.Frag} {mg : Str → Option Value} {base : Heap}
theorem scTold : FnScope ["stays", "wrong", "stay"] ["stays"] (defScope sTold) := ⟨rfl, rfl, rfl, by decide +kernel, rfl, by decide +kernel, by decide +kernel⟩
theorem ok_told {f fF fS CS fI : Addr} {fd fdF : FuncData} (F : Fun K "told_stays" "told_stays" sTold f fd) (T : TxtC mg) (gS : mg "is_stay" = some (.ref fS))
    (GF : FnOk P w K mg base CX0 4 fF fdF ["things", "is_right"] (spFirst K fS)) (gF : mg "first_wrong" = some (.ref fF)) (kF : PySem.W.keepIn K (.ref fF) = true) (bF : Binds K fdF ["things", "is_right"] [])
    (EA : ErrK P K mg "BadStays" CS fI "index") (htop : (P.main.scope.names.lookup ("super" : Str)).isSome = false) : FnOk P w K mg base (L2.CX P w) 5 f fd ["stays"] (spTold K CS) := by
  refine F.okX scTold (fun vs H Q E h => ?_) (fun cdv A outer s H vs Q E hr h => ?_)
  · obtain ⟨v, rfl, _⟩ := h
    rfl
  · obtain ⟨v, rfl, h⟩ := h
    have nd := scTold.nd
    refine ⟨_, pss_cons (ps_set (i := 1) nd rfl (Or.inl rfl) (pe_call GF hr (by rfl) gF kF bF .nil pass0 (pa_cons (pv 0) (pa_cons (pe_glob (v := .ref fS) (by rfl) gS rfl) pa_nil))))
      (pss_cons (ps_if (pt_cmpR op_notN (pv 1) pe_non (nomark _))
        (pss_one (ps_raise rfl (takes_of rfl rfl rfl rfl) (pmk_err EA.T EA.B hr htop (by rfl) EA.g EA.k EA.ex EA.ty (by exact (pa_cons (pv 1) pa_nil)) rfl))) pss_nil)
      (pss_one (ps_ret (pe_lc (own := [("stay", 2)]) (g := gName 2) (tt := tYes) rfl nd (pi_X (pv 0)) (blkOk_by (N := ["stays", "wrong", "stay"]) (sc := defScope sTold) (by decide +kernel))
        (fun _ _ _ _ _ => pg_name (i := 2) nd rfl (Or.inl rfl)) (fun _ _ _ _ _ => pts_nil) (fun _ _ _ _ _ => pe_callTy (call_tupK (K := K) rfl) (by rfl) T.tuple bTuple (pa_cons (pv 2) pa_nil)))))), ?_⟩
    rcases h with ⟨k, h, hf, q⟩ | ⟨a, tp, xs, rs, rfl, h, hp, hl, hbad, q⟩
    · refine ⟨_, rfl, v, rfl, .inl ⟨k, h, hf, fun H1 e1 => ⟨_, rfl, rfl, _, rfl, ?_⟩⟩⟩
      exact iteT ⟨_, rfl, _, rfl, fun d nd => (q.same e1).raise d nd⟩
    · refine ⟨_, rfl, _, rfl, .inr ⟨a, tp, xs, rs, rfl, h, hp, hl, fun H1 e1 => ⟨_, rfl, rfl, _, rfl, ?_⟩⟩⟩
      unfold fstV
      cases hfi : rs.findIdx? (fun r => r.isNone) with
      | some i => exact iteT ⟨_, rfl, _, rfl, fun d nd => ((hbad i hfi).same e1).raise d nd⟩
      | none =>
        obtain ⟨ss, rfl⟩ := none_all hfi
        have sx := SqX.at (K := K) (e1 _ _ h)
        refine iteF ⟨_, rfl, tp, a, xs, rfl, sx, fun D nD => ?_⟩
        have ll := hp.length
        rw [List.length_map] at ll
        have hp2 := Paired.unmap hp
        refine lc_it walk_X (fun i G => ButS D H1 G ∧ ∃ us, G D = some (.lst us) ∧ us.length = i ∧ Paired (St G) us (ss.take i)) ⟨ButS.put, [], upd_same, rfl, by rw [List.take_zero]; exact .nil⟩ (fun i G _ z => sx.same fun b o e => z.1 b o (ne_of_none e nD) e) (fun i x G G' hi z y => ?_) (fun G z => ?_)
        · obtain ⟨rfl, hx⟩ := y
          obtain ⟨B, us, gD, lu, pu⟩ := z
          refine ⟨rfl, ?_⟩
          dsimp only [tYes]
          rw [if_pos rfl]
          obtain ⟨s, hs, th⟩ := Paired.at hp2 hx
          obtain ⟨_, tq, t, rfl, ht⟩ := stay_tup th
          have eG : Same H G' := fun b o e => B b o (ne_of_none (e1 _ _ e) nD) (e1 _ _ e)
          have ht2 := eG _ _ ht
          have tD : t ≠ D := ne_of_none (e1 _ _ ht) nD
          have fin : ∀ (r : Addr) (G2 : Hp), Same G' G2 → r ≠ D → G2 r = some (.tup [.int s.1, .int s.2.1, .int s.2.2]) → ∃ acc, G2 D = some (.lst acc) ∧ acc.length < sizeLine ∧ (ButS D H1 (upd G2 D (.lst (acc ++ [.ref r]))) ∧ ∃ us, (upd G2 D (.lst (acc ++ [.ref r]))) D = some (.lst us) ∧ us.length = i + 1 ∧ Paired (St (upd G2 D (.lst (acc ++ [.ref r])))) us (ss.take (i + 1))) := fun r G2 e2 rD hr2 => by
            have keep : ∀ v s, St G' v s → St (upd G2 D (.lst (us ++ [.ref r]))) v s := fun v s z => by
              obtain ⟨t', e', h'⟩ := z
              refine ⟨t', e', ?_⟩
              rw [upd_ne (ne_of (e2 _ _ h') (e2 _ _ gD) (by intro z; cases z))]
              exact e2 _ _ h'
            refine ⟨us, e2 _ _ gD, by rw [sizeLine_eq]; omega, (B.trans (ButS.same e2)).trans ButS.put, _, upd_same, by rw [List.length_append, lu] <;> rfl, ?_⟩
            rw [List.take_add_one, hs]
            exact Paired.snoc (Paired.imp keep pu) ⟨r, rfl, by rw [upd_ne rD]; exact hr2⟩
          cases tq with
          | true => exact ⟨_, rfl, t, _, rfl, .inr ⟨SqT.of ht2, fin t G' (Same.refl G') tD ht2⟩⟩
          | false => exact ⟨_, rfl, t, _, rfl, .inl ⟨SqL.of ht2, fun l nl => fin l _ (Same.new nl) (ne_of_none gD nl).symm upd_same⟩⟩
        · obtain ⟨B, us, gD, lu, pu⟩ := z
          rw [ll, List.take_length] at pu
          exact q ss rfl G D (fun b o e => B b o (ne_of_none (e1 _ _ e) nD) (e1 _ _ e)) (e1.free nD) ⟨us, gD, pu⟩
/-! ### numbers that are asked for -/
def spNum (K : PySem.W.Frag) (C : Addr) (f : Str) : Sp := fun vs H Q E => ∃ (v : V) (k : Kd), vs = [v] ∧ Any K H v k ∧ (numV v = false → Bad E H C f v) ∧ (numV v = true → ∀ H', Same H H' → Q .non H')
theorem scMany : FnScope ["many"] ["many"] (defScope sMany) := ⟨rfl, rfl, rfl, by decide +kernel, rfl, by decide +kernel, by decide +kernel⟩
theorem ok_many {f fN C fI : Addr} {fd fdN : FuncData} (F : Fun K "check_many" "check_many" sMany f fd)
    (GN : FnOk P w K mg base CX0 2 fN fdN ["thing"] (spAsk K (numFrom 0))) (gN : mg "is_number" = some (.ref fN)) (kN : PySem.W.keepIn K (.ref fN) = true) (bN : Binds K fdN ["thing"] [])
    (EA : ErrK P K mg "BadMany" C fI "many") (htop : (P.main.scope.names.lookup ("super" : Str)).isSome = false) : FnOk P w K mg base (L2.CX P w) 3 f fd ["many"] (spNum K C "many") := by
  refine F.okX scMany (fun vs H Q E h => ?_) (fun cdv A outer s H vs Q E hr h => ?_)
  · obtain ⟨v, k, rfl, _⟩ := h
    rfl
  · obtain ⟨v, k, rfl, av, hbad, q⟩ := h
    refine ⟨_, pss_one (ps_if (pt_not (pt_val (pe_call GN hr (by rfl) gN kN bN .nil pass0 (pa_cons (pv 0) pa_nil))))
        (pss_one (ps_raise rfl (takes_of rfl rfl rfl rfl) (pmk_err EA.T EA.B hr htop (by rfl) EA.g EA.k EA.ex EA.ty (by exact (pa_cons (pv 0) pa_nil)) rfl))) pss_nil), ?_⟩
    refine ⟨_, rfl, v, k, rfl, av, fun H1 e1 => ⟨_, rfl, ?_⟩⟩
    rw [numV_eq]
    cases hn : numV v with
    | false => exact iteT ⟨_, rfl, _, rfl, fun d nd => ((hbad hn).same e1).raise d nd⟩
    | true => exact iteF (q hn _ e1)
/-- is an index of a list of so many -/
def ixV (n : Nat) (v : V) : Bool := match v with
  | .int i => decide (0 ≤ i) && decide (i < (n : Int))
  | _ => false
def spIdx (K : PySem.W.Frag) (C : Addr) : Sp := fun vs H Q E => ∃ (a : Addr) (xs : List V) (v : V) (k : Kd), vs = [.ref a, v] ∧ SqL K H a xs ∧ Any K H v k ∧ (ixV xs.length v = false → Bad E H C "index" v) ∧ (ixV xs.length v = true → ∀ H', Same H H' → Q .non H')
end
end OB
/-! The mathematics of stays: plain lists of whole numbers. -/
namespace OM
abbrev S3 : Type := Int × Int × Int
def cLt (d : Int) (es : List Int) : Nat := es.countP fun e => decide (e < d)
def cLe (d : Int) (bs : List Int) : Nat := bs.countP fun b => decide (b ≤ d)
theorem sorted_lt {d : Int} : ∀ {es : List Int}, es.Pairwise (· ≤ ·) → ∀ j (h : j < es.length), (es[j] < d ↔ j < cLt d es)
  | [], _, j, h => absurd h (Nat.not_lt_zero j)
  | e :: t, s, j, h => by
    obtain ⟨s1, s2⟩ := List.pairwise_cons.mp s
    have ih := sorted_lt (d := d) s2
    unfold cLt at ih ⊢
    by_cases c : e < d
    · rw [List.countP_cons_of_pos (by simpa using c)]
      match j with
      | 0 => simpa using c
      | j + 1 =>
        have := ih j (by simpa using h)
        simp only [List.getElem_cons_succ]
        omega
    · rw [List.countP_cons_of_neg (by simpa using c)]
      have z : t.countP (fun e => decide (e < d)) = 0 := by
        rw [List.countP_eq_zero]
        intro a m
        have := s1 a m
        simp
        omega
      rw [z]
      have : ¬ (e :: t)[j] < d := by
        match j with
        | 0 => simpa using c
        | j + 1 =>
          have m := s1 _ (List.getElem_mem (show j < t.length by simpa using h))
          simp only [List.getElem_cons_succ]
          omega
      constructor
      · intro z; exact absurd z this
      · intro z; exact absurd z (Nat.not_lt_zero _)
theorem cLe_lt (d : Int) (bs : List Int) : cLe d bs = cLt (d + 1) bs := by
  unfold cLe cLt
  apply List.countP_congr
  intro b _
  simp
  omega
theorem sorted_le {d : Int} {bs : List Int} (s : bs.Pairwise (· ≤ ·)) (j : Nat) (h : j < bs.length) : (bs[j] ≤ d ↔ j < cLe d bs) := by
  rw [cLe_lt, ← sorted_lt s j h]
  omega
def cB (ps : List (Int × Int)) (d : Int) : Nat := ps.countP fun p => decide (p.1 ≤ d) && decide (d ≤ p.2)
theorem cB_eq {d : Int} : ∀ {ps : List (Int × Int)}, (∀ p ∈ ps, p.1 ≤ p.2) → cB ps d + cLt d (ps.map Prod.snd) = cLe d (ps.map Prod.fst)
  | [], _ => rfl
  | p :: ps, h => by
    have ih := cB_eq (d := d) (ps := ps) fun q m => h q (List.mem_cons_of_mem _ m)
    have hp := h p (List.mem_cons_self ..)
    unfold cB cLt cLe at ih ⊢
    simp only [List.map_cons, List.countP_cons, List.countP_map] at ih ⊢
    by_cases a : p.1 ≤ d <;> by_cases b : d ≤ p.2 <;> by_cases c : p.2 < d <;> simp [a, b, c] <;> omega
/-- the greatest, 0 at least -/
def maxL (l : List Int) : Int := l.foldr max 0
theorem maxL_ge : ∀ {l : List Int} {x : Int}, x ∈ 0 :: l → x ≤ maxL l
  | [], x, m => by
    have : x = 0 := by simpa using m
    rw [this]
    exact Int.le_refl _
  | a :: l, x, m => by
    have e : maxL (a :: l) = max a (maxL l) := rfl
    rw [e]
    rcases List.mem_cons.mp m with z | z
    · have := maxL_ge (l := l) (x := x) (by rw [z]; exact List.mem_cons_self ..)
      omega
    · rcases List.mem_cons.mp z with z | z
      · omega
      · have := maxL_ge (l := l) (x := x) (List.mem_cons_of_mem _ z)
        omega
theorem maxL_mem : ∀ {l : List Int}, maxL l ∈ 0 :: l
  | [] => List.mem_cons_self ..
  | a :: l => by
    have e : maxL (a :: l) = max a (maxL l) := rfl
    have ih := maxL_mem (l := l)
    rw [e]
    rcases Int.le_total a (maxL l) with z | z
    · rw [Int.max_eq_right z]
      rcases List.mem_cons.mp ih with y | y
      · rw [y]
        exact List.mem_cons_self ..
      · exact List.mem_cons_of_mem _ (List.mem_cons_of_mem _ y)
    · rw [Int.max_eq_left z]
      exact List.mem_cons_of_mem _ (List.mem_cons_self ..)
theorem maxL_eq {l : List Int} {m : Int} (h1 : m ∈ 0 :: l) (h2 : ∀ x ∈ 0 :: l, x ≤ m) : m = maxL l := Int.le_antisymm (maxL_ge h1) (h2 _ maxL_mem)
theorem maxL_le {l : List Int} {m : Int} (h0 : 0 ≤ m) (h : ∀ x ∈ l, x ≤ m) : maxL l ≤ m := by
  rcases List.mem_cons.mp (maxL_mem (l := l)) with z | z
  · rw [z]; exact h0
  · exact h _ z
def most (ps : List (Int × Int)) : Int := maxL (ps.map fun p => (cB ps p.1 : Int))
/-- what stands beside each begin -/
def counts (bs : List Int) (ps : List (Int × Int)) : List (Int × Int) := bs.mapIdx fun i d => (d, (i : Int) + 1 - cLt d (ps.map Prod.snd))
theorem counts_at {bs : List Int} {ps : List (Int × Int)} {i : Nat} {d : Int} (h : bs[i]? = some d) : (counts bs ps)[i]? = some (d, (i : Int) + 1 - cLt d (ps.map Prod.snd)) := by
  unfold counts
  rw [List.getElem?_mapIdx, h]
  rfl
theorem most_counts {bs : List Int} {ps : List (Int × Int)} (hp : ∀ p ∈ ps, p.1 ≤ p.2) (pm : bs.Perm (ps.map Prod.fst)) (s : bs.Pairwise (· ≤ ·)) : maxL ((counts bs ps).map Prod.snd) = most ps := by
  have le : ∀ d, cLe d bs = cLe d (ps.map Prod.fst) := fun d => pm.countP_eq _
  refine Int.le_antisymm (maxL_le (maxL_ge (List.mem_cons_self ..)) fun x m => ?_) (maxL_le (maxL_ge (List.mem_cons_self ..)) fun x m => ?_)
  · obtain ⟨y, m1, rfl⟩ := List.mem_map.mp m
    obtain ⟨i, hi, hy⟩ := List.getElem_of_mem m1
    have hl : (counts bs ps).length = bs.length := by unfold counts; simp
    rw [hl] at hi
    have z := counts_at (ps := ps) (List.getElem?_eq_getElem hi)
    rw [List.getElem?_eq_getElem (by omega), hy] at z
    obtain rfl := Option.some.inj z
    have m2 : bs[i] ∈ ps.map Prod.fst := pm.mem_iff.mp (List.getElem_mem hi)
    obtain ⟨p, mp, hp1⟩ := List.mem_map.mp m2
    have e := cB_eq (d := bs[i]) hp
    have g := (sorted_le s i hi).mp (Int.le_refl bs[i])
    rw [le] at g
    have t : (cB ps p.1 : Int) ≤ most ps := maxL_ge (List.mem_cons_of_mem _ (List.mem_map.mpr ⟨p, mp, rfl⟩))
    rw [hp1] at t
    show (i : Int) + 1 - cLt bs[i] (ps.map Prod.snd) ≤ most ps
    omega
  · obtain ⟨p, mp, rfl⟩ := List.mem_map.mp m
    have mb : p.1 ∈ bs := pm.mem_iff.mpr (List.mem_map.mpr ⟨p, mp, rfl⟩)
    obtain ⟨k, hk, ek⟩ := List.getElem_of_mem mb
    have k1 := (sorted_le (d := p.1) s k hk).mp (by rw [ek]; exact Int.le_refl _)
    have lc : cLe p.1 bs ≤ bs.length := List.countP_le_length
    have hi : cLe p.1 bs - 1 < bs.length := by omega
    have i1 := (sorted_le (d := p.1) s _ hi).mpr (by omega)
    have i2 : bs[k] ≤ bs[cLe p.1 bs - 1] := by
      rcases Nat.lt_or_eq_of_le (show k ≤ cLe p.1 bs - 1 by omega) with z | z
      · exact List.pairwise_iff_getElem.mp s _ _ hk hi z
      · simp [← z]
    have e1 : bs[cLe p.1 bs - 1] = p.1 := by omega
    have z := counts_at (ps := ps) (List.getElem?_eq_getElem hi)
    rw [e1] at z
    have m3 := List.mem_of_getElem? z
    have t := maxL_ge (l := (counts bs ps).map Prod.snd) (List.mem_cons_of_mem _ (List.mem_map.mpr ⟨_, m3, rfl⟩))
    have e := cB_eq (d := p.1) hp
    rw [← le] at e
    have t2 : ((cLe p.1 bs - 1 : Nat) : Int) + 1 - cLt p.1 (ps.map Prod.snd) ≤ maxL ((counts bs ps).map Prod.snd) := t
    omega
/-- the days from which and to which stays bind -/
def spans (ss : List S3) : List (Int × Int) := ss.map fun s => (s.1, s.2.1 + s.2.2)
/-- how many addresses they need -/
def need (ss : List S3) : Int := most (spans ss)
def short (ss : List S3) (l : Int) : List S3 := ss.map fun s => (s.1, s.2.1, min s.2.2 l)
def GoodS (s : S3) : Prop := 0 ≤ s.1 ∧ s.1 ≤ s.2.1 ∧ 0 ≤ s.2.2
theorem spans_ok {ss : List S3} (h : ∀ s ∈ ss, GoodS s) : ∀ p ∈ spans ss, p.1 ≤ p.2 := fun p m => by
  obtain ⟨s, ms, rfl⟩ := List.mem_map.mp m
  obtain ⟨h1, h2, h3⟩ := h s ms
  show s.1 ≤ s.2.1 + s.2.2
  omega
end OM
namespace OB
open PySem PySem.Spec PyProof.Rows L2
/-! ### enumerate(list, start=k) -/
section
variable {M : Model} {A : Around} {E : Value → Shared → Prop} {s : Shared} {env : Env}
theorem cw_typeK {pos : Pos} {T : String} {e : Expr} {rest : List Expr} {kws : List Keyword} {Q : Value → Shared → Prop}
    (h : wpAny M A (spliced (backTo pos (starEach (e :: rest) env))) (fun vs s₁ => wpAny M A (evalAll ((backToKw pos (keywordEach kws env)).map (·.2)))
      (fun kvs s₂ => wpAny M A (call (.type T) vs (((backToKw pos (keywordEach kws env)).filterMap (·.1)).zip kvs)) Q E s₂) E s₁) E s)
    (he : backTo pos (starEach (e :: rest) env) = (false, eval e env) :: backTo pos (starEach rest env))
    (hplain : (backTo pos (starEach (e :: rest) env)).any (·.1) = false)
    (hall : (backToKw pos (keywordEach kws env)).all (·.1.isSome) = true)
    (hkw : (backToKw pos (keywordEach kws env)).any (·.1.isNone) = false) :
    wpAny M A (callWith pos (.type T) [] (backTo pos (starEach (e :: rest) env)) (backToKw pos (keywordEach kws env))) Q E s := by
  have ar : wpAny M A (evalArgs (.type T) true (backTo pos (starEach (e :: rest) env)) (backToKw pos (keywordEach kws env))) (fun a s₁ => wpAny M A (call (.type T) a.pos a.kw) Q E s₁) E s := by
    rw [he] at h ⊢
    exact evalArgs_kwB hall h
  unfold callWith
  refine wpAny_bind (wpAny_holding (wpAny_mono ar (fun a s₁ h₁ => wpAny_bind (wpAny_standAt ?_)) fun _ _ x => x))
  simp only [hplain, hkw, Bool.or_false]
  refine wpAny_bind (wpAny_pure ?_)
  exact wpAny_bind (wpAny_mono h₁ (fun r s₂ hr => wpAny_bind (wpAny_holding (wpAny_point (wpAny_pure hr)))) fun _ _ x => x)
end
/-- the list at a, each item in a new pair with its place and k more -/
def IteS (K : PySem.W.Frag) (a : Addr) (k : Int) : It :=
  ⟨fun i H => ∃ (xs : List V) (x : V), SqL K H a xs ∧ xs[i]? = some x, fun i H v H' => ∃ T x, v = .ref T ∧ H T = none ∧ H' = upd H T (.tup [.int (k + (i : Nat)), x]) ∧ ∀ xs, SqL K H a xs → xs[i]? = some x, fun i H => ∃ xs : List V, SqL K H a xs ∧ xs.length = i⟩
theorem lst_ne {h : Heap} {a it : Addr} {items : Array Value} {i : Nat} (p : h.IsList a items) (q : h.IsListIter it a i) : a ≠ it := fun z => by
  obtain ⟨o, e, c, _⟩ := p
  obtain ⟨o2, e2, c2, _⟩ := q
  rw [z, e2] at e
  cases e
  rw [c2] at c
  exact absurd c (by decide)
theorem turn_enS {P : Program} {w : World} {K : PySem.W.Frag} {elts : List Expr} {kk : Nat} {tpos : Pos} (k : Int) (a e it : Addr) :
    Turn P w K (.Tuple elts kk tpos) (IteS K a k) [e, it] e (fun i h => (∃ old, IsEnum h e it (k + (i : Int)) old) ∧ h.IsListIter it a i ∧ e ≠ it) where
  mem := by simp
  obj := fun i h st b hb => by
    obtain ⟨⟨old, he⟩, ⟨o, ho, hc, hd⟩, _⟩ := st
    rcases (show b = e ∨ b = it by simpa using hb) with z | z
    · rw [z]
      exact ⟨_, he, fun v q => nomatch q⟩
    · rw [z]
      exact ⟨o, ho, fun v q => by rw [hd] at q; cases q⟩
  keep := fun i h h' st k => by
    obtain ⟨⟨old, he⟩, hi, hne⟩ := st
    exact ⟨⟨old, k e (by simp) _ he⟩, hi.at fun o q => k it (by simp) o q, hne⟩
  item := by
    intro X hP hw hK hc i pins s σ H E I hf st hg
    subst hP hw hK
    obtain ⟨⟨old, he⟩, hit, hne⟩ := st
    obtain ⟨xs, x, hq, hx⟩ := hg
    obtain ⟨its, rv, p, hz⟩ := I.list hq
    have p' : s.heap.IsList a its.toArray := p.isList
    have ea : e ≠ a := fun z => by
      obtain ⟨o, eo, c, _⟩ := p'
      rw [← z, he] at eo
      cases eo
      exact absurd (show Value.type "enumerate" = Value.type "list" from c) (by decide)
    have D := Draws.list (prog := X.prog) (w := X.w) (A := X.A.in1) (I.ok.hd hc) it a (lst_ne p' hit) its.toArray
    have G := GoesN.enumFrom (elts := elts) (x1 := kk) (pos := tpos) k D e hne (by simp [hne, ea]) (by simp)
    have hi : i < its.toArray.size := by
      have l := rv.length
      have l2 : i < xs.length := (List.getElem?_eq_some_iff.mp hx).1
      simp
      omega
    have hlt : ∀ b ∈ [e, it], b < s.heap.objs.size := fun b hb => by
      rcases (show b = e ∨ b = it by simpa using hb) with z | z
      · rw [z]
        exact Heap.lt_size he
      · rw [z]
        obtain ⟨_, q, _⟩ := hit
        exact Heap.lt_size q
    refine G.goes i s _ _ hi ⟨⟨old, he⟩, hit, p'⟩ fun v h' tk hY st' hk htk => ?_
    obtain ⟨T, t, u, rfl, hT, hu, hTup⟩ := hY
    obtain ⟨⟨old', he'⟩, hit', _⟩ := st'
    have hu' : its[i]? = some u := by simpa using hu
    obtain ⟨u2, hu2, ru⟩ := rv.get hx
    rw [hu'] at hu2
    cases hu2
    obtain ⟨oT, eT, cT, nT, dT⟩ := hTup
    have new : ObjOk X.prog X.w (upd H T (.tup [.int (k + (i : Nat)), x])) h' T (.tup [.int (k + (i : Nat)), x]) :=
      ⟨by show 2 ≤ sizeLine; decide, [.int (k + (i : Int)) t, u], .cons ⟨t, rfl⟩ (.cons ru .nil), ⟨oT, eT, cT, nT, dT⟩⟩
    have I1 : Inv X pins σ (upd H T (.tup [.int (k + (i : Nat)), x])) { s with heap := h', toks := tk } := I.turnedNew (t' := tk) (ch := [e, it]) hk hf hT new
    exact ⟨.ref T, _, I1, rfl, ⟨T, x, rfl, I.hok.fresh hT, rfl, fun ys hy => by rw [I.list_inj hy hq]; exact hx⟩, ⟨⟨old', he'⟩, hit', hne⟩, fun b hb => by
      rw [upd_ne (Nat.ne_of_lt (Nat.lt_of_lt_of_le (hlt b hb) hT))]
      exact (hf b hb).1⟩
  done := by
    intro X hP hw hK hc i pins s σ H E I hf st hg
    subst hP hw hK
    obtain ⟨⟨old, he⟩, hit, hne⟩ := st
    obtain ⟨xs, hq, hx⟩ := hg
    obtain ⟨its, rv, p, hz⟩ := I.list hq
    have p' : s.heap.IsList a its.toArray := p.isList
    have ea : e ≠ a := fun z => by
      obtain ⟨o, eo, c, _⟩ := p'
      rw [← z, he] at eo
      cases eo
      exact absurd (show Value.type "enumerate" = Value.type "list" from c) (by decide)
    have D := Draws.list (prog := X.prog) (w := X.w) (A := X.A.in1) (I.ok.hd hc) it a (lst_ne p' hit) its.toArray
    have G := GoesN.enumFrom (elts := elts) (x1 := kk) (pos := tpos) k D e hne (by simp [hne, ea]) (by simp)
    have hn : its.toArray.size = i := by
      have l := rv.length
      simp
      omega
    refine G.stops s _ _ (by rw [hn]; exact ⟨⟨old, he⟩, hit, p'⟩) fun h' tk hk htk => ?_
    exact I.turnedL (t' := tk) (ch := [e, it]) hk hf
  self := fun A i s Q E st h => by
    obtain ⟨⟨_, he⟩, _⟩ := st
    exact wpAny_pyIter_enum he h
def iEnS (K : PySem.W.Frag) (k : Int) (ta : TA) : TI := fun σ H R => ta σ H fun vs H1 => ∃ a xs, vs = [.ref a] ∧ SqL K H1 a xs ∧ R (IteS K a k) H1
theorem pi_enS {X : Cx} {e ke : Expr} {ta : TA} {p pos tpos kp : Pos} {elts : List Expr} {kk : Nat} {k : Int} (hk0 : -(2 ^ 63) ≤ k) (hk1 : k < 2 ^ 63) (hg : Gl X "enumerate") (hm : X.mg "enumerate" = none) (ha : PA X [e] ta) (hke : PE X ke (tC (.int k)))
    (he : backTo pos (starEach [e] X.env) = (false, eval e X.env) :: backTo pos (starEach [] X.env) := by rfl) (hpl : (backTo pos (starEach [e] X.env)).any (·.1) = false := by rfl)
    (hall : (backToKw pos (keywordEach [⟨some "start", ke, kp⟩] X.env)).all (·.1.isSome) = true := by rfl) (hnone : (backToKw pos (keywordEach [⟨some "start", ke, kp⟩] X.env)).any (·.1.isNone) = false := by rfl)
    (hks : (backToKw pos (keywordEach [⟨some "start", ke, kp⟩] X.env)).filterMap (·.1) = [Str.ofString "start"] := by rfl) :
    PI X (.Tuple elts kk tpos) (.Call (.Name "enumerate" p) [e] [⟨some "start", ke, kp⟩] pos) (iEnS X.K k ta) := by
  refine ⟨fun pins s σ H R I h => ?_⟩
  refine wpAny_Call_Name_kw (ld_blt I hg hm boot_enumerate ?_)
  refine cw_typeK (thn (ha.run pos pins s σ H _ I h) fun us s1 ⟨vs, H1, I1, r1, q1⟩ => thn ((pk_cons hke pk_nil).run pos pins s1 σ H1 (fun zs H2 => zs = [.int k] ∧ H2 = H1) I1 ⟨rfl, rfl⟩) fun ws s2 ⟨zs, H2, I2, r2, q2⟩ => ?_) he hpl hall hnone
  obtain ⟨rfl, rfl⟩ := q2
  rw [hks]
  obtain ⟨a, xs, rfl, hq, q⟩ := q1
  have fresh2 : ∀ b, b ∈ [s2.heap.objs.size + 1, s2.heap.objs.size] → FpOk X pins H2 b := fun b hb => by
    have le : s2.heap.objs.size ≤ b := by
      rcases (show b = s2.heap.objs.size + 1 ∨ b = s2.heap.objs.size by simpa using hb) with z | z <;> omega
    exact I2.fpOk le (I2.hok.fresh le)
  cases r1 with
  | cons r rr =>
    cases rr
    cases r
    cases r2 with
    | cons r rr =>
      cases rr
      obtain ⟨tk, rfl⟩ := r
      obtain ⟨its, rv, p', hz⟩ := I2.list hq
      show wpAny _ _ (call (.type "enumerate") [.ref a] [(Str.ofString "start", .int k tk)]) _ _ _
      refine enum_begins_start (begins_list a its.toArray) p'.isList hk0 hk1 fun h' he2 ho hsz hkk => wpAny_pyIter_enum he2 ?_
      exact ⟨s2.heap.objs.size + 1, [s2.heap.objs.size + 1, s2.heap.objs.size], _, _, H2, rfl, I2.kept (t' := s2.toks) hkk, turn_enS k a (s2.heap.objs.size + 1) s2.heap.objs.size, ⟨⟨.none, by simpa using he2⟩, ⟨_, ho, rfl, rfl⟩, Nat.succ_ne_self _⟩, fresh2, q⟩
theorem walk_enS {K : PySem.W.Frag} {a : Addr} {k : Int} {xs : List V} : Walk (IteS K a k) xs.length (fun H => SqL K H a xs) (YPair (fun i => some (.int (k + (i : Nat)))) (fun i => xs[i]?)) := by
  refine ⟨fun i _ hi q => ⟨xs, xs[i], q, by simp [hi]⟩, fun _ q => ⟨xs, q, rfl⟩, fun i H v H' _ q y => ?_⟩
  obtain ⟨T, x, h1, h2, h3, h4⟩ := y
  exact ⟨T, .int (k + (i : Nat)), x, h1, h2, h3, rfl, h4 xs q⟩
end OB
namespace OB
open PySem PySem.Spec PyProof.Rows L2
abbrev sCounts : Stmt := top 12
abbrev sMost : Stmt := top 13
/-- a pair of whole numbers -/
def Sp2 (H : Hp) (v : V) (p : Int × Int) : Prop := ∃ t : Addr, v = .ref t ∧ H t = some (.tup [.int p.1, .int p.2])
theorem Sp2.same {H H' : Hp} {v : V} {p : Int × Int} (h : Sp2 H v p) (e : Same H H') : Sp2 H' v p := by
  obtain ⟨t, z, h⟩ := h
  exact ⟨t, z, e _ _ h⟩
def PRow (H : Hp) (a : Addr) (ps : List (Int × Int)) : Prop := ∃ vs, H a = some (.lst vs) ∧ Paired (Sp2 H) vs ps
theorem PRow.same {H H' : Hp} {a : Addr} {ps : List (Int × Int)} (h : PRow H a ps) (e : Same H H') : PRow H' a ps := by
  obtain ⟨vs, h1, h2⟩ := h
  exact ⟨vs, e _ _ h1, Paired.imp (fun _ _ z => Sp2.same z e) h2⟩
theorem Sp2.putL {H : Hp} {v : V} {p : Int × Int} {D : Addr} {xs ys : List V} (h : Sp2 H v p) (hD : H D = some (.lst xs)) : Sp2 (upd H D (.lst ys)) v p := by
  obtain ⟨t, z, h⟩ := h
  refine ⟨t, z, ?_⟩
  rw [upd_ne (ne_of h hD (by intro z; cases z))]
  exact h
def spCounts : Sp := fun vs H Q _ => ∃ (a : Addr) (ps : List (Int × Int)), vs = [.ref a] ∧ PRow H a ps ∧ ps.length ≤ 1000 ∧ (∀ p ∈ ps, p.1 ≤ p.2) ∧ ∀ H' D bs, bs.Perm (ps.map Prod.fst) → bs.Pairwise (· ≤ ·) → Same H H' → H D = none → PRow H' D (OM.counts bs ps) → Q (.ref D) H'
def spMost : Sp := fun vs H Q _ => ∃ (a : Addr) (ps : List (Int × Int)), vs = [.ref a] ∧ PRow H a ps ∧ ps.length ≤ 1000 ∧ (∀ p ∈ ps, p.1 ≤ p.2) ∧ ∀ H', Same H H' → Q (.int (OM.most ps)) H'
section
variable {P : Program} {w : World} {K : PySem.W.Frag} {mg : Str → Option Value} {base : Heap}
theorem scCounts : FnScope ["spans", "begins", "ends", "found", "gone", "begun", "day", "first", "last"] ["spans"] (defScope sCounts) := ⟨rfl, rfl, rfl, by decide +kernel, rfl, by decide +kernel, by decide +kernel⟩
theorem ok_counts {f : Addr} {fd : FuncData} (F : Fun K "counts_at_begins" "counts_at_begins" sCounts f fd) (en : mg "enumerate" = none) (so : mg "sorted" = none) : FnOk P w K mg base CX0 1 f fd ["spans"] spCounts := by
  refine F.ok scCounts (fun vs H Q E h => ?_) (fun cdv A outer s H vs Q E hr h => ?_)
  · obtain ⟨a, ps, rfl, _⟩ := h
    rfl
  · obtain ⟨a, ps, rfl, hp, hl, hok, q⟩ := h
    have nd := scCounts.nd
    refine ⟨_, pss_cons (ps_set (i := 1) nd rfl (Or.inl rfl) (pe_callB cr_sortedI (by rfl) so (by decide +kernel) (pa_cons (pe_lc (own := [("first", 7), ("last", 8)]) (g := gTup K 2 (gCons (gName 7) (gCons (gName 8) gNil))) (tt := tYes) rfl nd (pi_list (pv 0))
          (blkOk_by (N := ["spans", "begins", "ends", "found", "gone", "begun", "day", "first", "last"]) (sc := defScope sCounts) (by decide +kernel)) (fun _ _ _ _ _ => pg_tup rfl (pgs_cons (pg_name (i := 7) nd rfl (Or.inl rfl)) (pgs_cons (pg_name (i := 8) nd rfl (Or.inl rfl)) pgs_nil))) (fun _ _ _ _ _ => pts_nil) (fun _ _ _ _ _ => pv 7)) pa_nil)))
      (pss_cons (ps_set (i := 2) nd rfl (Or.inl rfl) (pe_callB cr_sortedI (by rfl) so (by decide +kernel) (pa_cons (pe_lc (own := [("first", 7), ("last", 8)]) (g := gTup K 2 (gCons (gName 7) (gCons (gName 8) gNil))) (tt := tYes) rfl nd (pi_list (pv 0))
          (blkOk_by (N := ["spans", "begins", "ends", "found", "gone", "begun", "day", "first", "last"]) (sc := defScope sCounts) (by decide +kernel)) (fun _ _ _ _ _ => pg_tup rfl (pgs_cons (pg_name (i := 7) nd rfl (Or.inl rfl)) (pgs_cons (pg_name (i := 8) nd rfl (Or.inl rfl)) pgs_nil))) (fun _ _ _ _ _ => pts_nil) (fun _ _ _ _ _ => pv 8)) pa_nil)))
      (pss_cons (ps_set (i := 3) nd rfl (Or.inl rfl) (pe_lst pa_nil))
      (pss_cons (ps_set (i := 4) nd rfl (Or.inl rfl) pe_int)
      (pss_cons (ps_for PassesOwn.never rfl (pi_enS (k := 1) (by decide) (by decide) (by rfl) en (pa_cons (pv 1) pa_nil) pe_int) (pg_tup rfl (pgs_cons (pg_name (i := 5) nd rfl (Or.inl rfl)) (pgs_cons (pg_name (i := 6) nd rfl (Or.inl rfl)) pgs_nil)))
        (pss_cons (ps_while PassesOwn.never (pt_cmpR op_lt (pe_ix ix_list (pv 2) (pv 4) (fun _ _ => rfl)) (pv 6) (nomark _)) (pss_one (ps_aug (i := 4) nd rfl (Or.inl rfl) pe_int ip_add)))
        (pss_one (ps_expr (pe_bm PySem.F.plainAttrs_list PySem.F.slot_list_append PySem.F.type_list_append mt_append (pv 3) (pa_cons (pe_tup (pa_cons (pv 6) (pa_cons (pe_op op_sub (pv 5) (pv 4)) pa_nil))) pa_nil))))))
      (pss_one (ps_ret (pv 3))))))), ?_⟩
    obtain ⟨us, hu, pu⟩ := id hp
    have ll := pu.length
    refine ⟨_, rfl, a, rfl, ⟨_, SqL.of hu⟩, fun D nD => ?_⟩
    have m1 : ((ps.map Prod.fst).map V.int).length = us.length := by simp [ll]
    have m2 : ((ps.map Prod.snd).map V.int).length = us.length := by simp [ll]
    refine lc_it (walk_list (xs := us)) (AccP D H (mapTo ((ps.map Prod.fst).map V.int))) (acc_start rfl) (fun i G _ z => Same.seq (acc_same z (Same.refl H) nD) (SqL.of hu)) (fun i x G G' hi z y => ?_) (fun G z => ?_)
    · obtain ⟨rfl, hx⟩ := y
      obtain ⟨p, hpp, t, rfl, ht⟩ := Paired.at pu hx
      refine ⟨t, _, rfl, SqT.of (acc_same z (Same.refl H) nD _ _ ht), rfl, .int p.1, _, rfl, .int p.2, _, rfl, rfl, rfl, ?_⟩
      dsimp only [tYes]
      rw [if_pos rfl]
      exact ⟨_, rfl, acc_in z (Same.refl _) (mapTo_len (by rw [m1, sizeLine_eq]; omega)) (mapTo_succ (by rw [List.getElem?_map, List.getElem?_map, hpp] <;> rfl))⟩
    rw [← m1] at z
    have gD : G D = some (.lst ((ps.map Prod.fst).map V.int)) := by rw [z.2, mapTo_all]
    have e2 : Same H G := acc_same z (Same.refl H) nD
    refine ⟨D, ps.map Prod.fst, rfl, SqL.of gD, fun bs b pb sb nb => ?_⟩
    have e3 : Same H (upd G b (.lst (bs.map V.int))) := e2.trans (Same.new nb)
    have gb : (upd G b (.lst (bs.map V.int))) b = some (.lst (bs.map V.int)) := upd_same
    have nb0 : H b = none := e2.free nb
    show tSeq _ _ _ _ (upd G b (.lst (bs.map V.int)))
    generalize upd G b (.lst (bs.map V.int)) = H1 at e3 gb ⊢
    clear z gD e2 nD
    refine ⟨_, rfl, a, rfl, ⟨_, SqL.of (e3 _ _ hu)⟩, fun D nD => ?_⟩
    refine lc_it (walk_list (xs := us)) (AccP D H1 (mapTo ((ps.map Prod.snd).map V.int))) (acc_start rfl) (fun i G _ z => Same.seq (acc_same z e3 nD) (SqL.of hu)) (fun i x G G' hi z y => ?_) (fun G z => ?_)
    · obtain ⟨rfl, hx⟩ := y
      obtain ⟨p, hpp, t, rfl, ht⟩ := Paired.at pu hx
      refine ⟨t, _, rfl, SqT.of (acc_same z e3 nD _ _ ht), rfl, .int p.1, _, rfl, .int p.2, _, rfl, rfl, rfl, ?_⟩
      dsimp only [tYes]
      rw [if_pos rfl]
      exact ⟨_, rfl, acc_in z (Same.refl _) (mapTo_len (by rw [m2, sizeLine_eq]; omega)) (mapTo_succ (by rw [List.getElem?_map, List.getElem?_map, hpp] <;> rfl))⟩
    rw [← m2] at z
    have gD : G D = some (.lst ((ps.map Prod.snd).map V.int)) := by rw [z.2, mapTo_all]
    have e4 : Same H1 G := acc_same z (Same.refl H1) nD
    refine ⟨D, ps.map Prod.snd, rfl, SqL.of gD, fun es c pe se nc => ?_⟩
    have e5 : Same H1 (upd G c (.lst (es.map V.int))) := e4.trans (Same.new nc)
    have gc : (upd G c (.lst (es.map V.int))) c = some (.lst (es.map V.int)) := upd_same
    show tSeq _ _ _ _ (upd G c (.lst (es.map V.int)))
    generalize upd G c (.lst (es.map V.int)) = H2 at e5 gc ⊢
    clear z gD e4 nD
    have gb2 := e5 _ _ gb
    refine ⟨Nat.zero_le _, fun F nF => ?_⟩
    have e6 : Same H (upd H2 F (.lst [])) := (e3.trans e5).trans (Same.new nF)
    have nF0 : H F = none := (e3.trans e5).free nF
    have gF : (upd H2 F (.lst [])) F = some (.lst []) := upd_same
    have gb3 := Same.new (u := .lst []) nF _ _ gb2
    have gc3 := Same.new (u := .lst []) nF _ _ gc
    have Fb : F ≠ b := (ne_of_none gb2 nF).symm
    have Fc : F ≠ c := (ne_of_none gc nF).symm
    show tSeq _ _ _ _ (upd H2 F (.lst []))
    generalize upd H2 F (.lst []) = H3 at e6 gF gb3 gc3 ⊢
    have lb : bs.length = ps.length := by rw [pb.length_eq, List.length_map]
    have le : es.length = ps.length := by rw [pe.length_eq, List.length_map]
    have cl : ∀ d, OM.cLt d es = OM.cLt d (ps.map Prod.snd) := fun d => pe.countP_eq _
    refine ⟨_, rfl, b, _, rfl, SqL.of gb3, ?_⟩
    refine for_it (walk_enS (xs := bs.map V.int)) (fun i σ G => ∃ (g : Nat) (s5 s6 : Option V) (ws : List V), σ = [some (.ref a), some (.ref b), some (.ref c), some (.ref F), some (.int (g : Nat)), s5, s6, none, none] ∧ ButS F H3 G ∧ G F = some (.lst ws) ∧ ws.length = i ∧ Paired (Sp2 G) ws ((OM.counts bs ps).take i) ∧ (∀ d, bs[i]? = some d → g ≤ OM.cLt d (ps.map Prod.snd)))
      ⟨0, _, _, [], rfl, ButS.refl, gF, rfl, by rw [List.take_zero]; exact .nil, fun d _ => Nat.zero_le _⟩ (fun i σ G _ z => ?_) (fun i x σ G G' hi z y => ?_) (fun σ G z => ?_)
    · obtain ⟨g, s5, s6, ws, rfl, B, _⟩ := z
      exact SqL.of (B _ _ Fb.symm gb3)
    · obtain ⟨g, s5, s6, ws, rfl, B, gW, lw, pw, gl⟩ := z
      obtain ⟨TT, x1, x2, rfl, hT, rfl, hx, hy⟩ := y
      obtain rfl : V.int (1 + (i : Nat)) = x1 := Option.some.inj hx
      rw [List.length_map] at hi
      have hy : (bs.map V.int)[i]? = some x2 := hy
      have hd : bs[i]? = some bs[i] := List.getElem?_eq_getElem hi
      rw [List.getElem?_map, hd] at hy
      obtain rfl : V.int bs[i] = x2 := Option.some.inj hy
      generalize hdv : bs[i] = d at hd
      have gl := gl d hd
      refine ⟨TT, _, rfl, SqT.of upd_same, rfl, .int (1 + (i : Nat)), _, rfl, .int d, _, rfl, rfl, ?_⟩
      have B1 : ButS F H3 (upd G TT (.tup [.int (1 + (i : Nat)), .int d])) := B.trans (ButS.same (Same.new hT))
      have gW1 := Same.new (u := .tup [.int (1 + (i : Nat)), .int d]) hT _ _ gW
      have pw1 : Paired (Sp2 (upd G TT (.tup [.int (1 + (i : Nat)), .int d]))) ws ((OM.counts bs ps).take i) := Paired.imp (fun _ _ z => Sp2.same z (Same.new hT)) pw
      show tSeq _ _ _ _ (upd G TT (.tup [.int (1 + (i : Nat)), .int d]))
      generalize upd G TT (.tup [.int (1 + (i : Nat)), .int d]) = G1 at B1 gW1 pw1 ⊢
      have lt : OM.cLt d (ps.map Prod.snd) < ps.length := by
        have m : d ∈ ps.map Prod.fst := pb.mem_iff.mp (List.mem_of_getElem? hd)
        obtain ⟨p, mp, rfl⟩ := List.mem_map.mp m
        have h1 := hok p mp
        have h2 : OM.cLt p.1 (ps.map Prod.snd) ≠ (ps.map Prod.snd).length := fun z => by
          unfold OM.cLt at z
          rw [List.countP_eq_length] at z
          have := z p.2 (List.mem_map.mpr ⟨p, mp, rfl⟩)
          simp at this
          omega
        have h3 : OM.cLt p.1 (ps.map Prod.snd) ≤ (ps.map Prod.snd).length := List.countP_le_length
        rw [List.length_map] at h2 h3
        omega
      refine ⟨fun m σ G => ∃ g : Nat, m = OM.cLt d (ps.map Prod.snd) - g ∧ g ≤ OM.cLt d (ps.map Prod.snd) ∧ σ = [some (.ref a), some (.ref b), some (.ref c), some (.ref F), some (.int (g : Nat)), some (.int (1 + (i : Nat))), some (.int d), none, none] ∧ G = G1, ⟨_, g, rfl, gl, rfl, rfl⟩, ?_⟩
      rintro m σ G ⟨g, rfl, gl, rfl, rfl⟩
      have hg : g < es.length := by omega
      refine ⟨_, rfl, _, rfl, c, es.map V.int, (g : Nat), .int es[g], rfl, rfl, SqL.of (B1 _ _ Fc.symm gc3), atI_nat (by rw [List.getElem?_map, List.getElem?_eq_getElem hg] <;> rfl), _, rfl, es[g], d, rfl, rfl, _, rfl, ?_⟩
      have key := OM.sorted_lt (d := d) se g hg
      rw [cl] at key
      refine ite2 (fun h => ?_) (fun h => ?_)
      · have h1 := key.mp (of_decide_eq_true h)
        refine ⟨fun σ' H' => ∃ g' : Nat, g' = g + 1 ∧ σ' = [some (.ref a), some (.ref b), some (.ref c), some (.ref F), some (.int (g' : Nat)), some (.int (1 + (i : Nat))), some (.int d), none, none] ∧ H' = G, ?_, ?_⟩
        · rintro σ' H' ⟨g', rfl, rfl, rfl⟩
          exact ⟨_, by omega, g + 1, rfl, by omega, rfl, rfl⟩
        · exact ⟨_, rfl, g, 1, rfl, rfl, g + 1, rfl, rfl, rfl⟩
      · have h1 : ¬ g < OM.cLt d (ps.map Prod.snd) := fun z => h (decide_eq_true (key.mpr z))
        have eg : g = OM.cLt d (ps.map Prod.snd) := by omega
        refine ⟨_, rfl, .inl ⟨rfl, _, SqL.of gW1⟩, _, rfl, _, rfl, _, rfl, _, _, rfl, rfl, by show 2 ≤ sizeLine; decide, fun t nt => ?_⟩
        have gW2 := Same.new (u := .tup [.int d, .int (1 + (i : Nat) - (g : Nat))]) nt _ _ gW1
        refine ⟨F, ws, _, rfl, rfl, gW2, by rw [sizeLine_eq]; omega, ?_⟩
        have Ft : t ≠ F := (ne_of_none gW1 nt).symm
        refine ⟨g, _, _, _, rfl, (B1.trans (ButS.same (Same.new nt))).trans ButS.put, upd_same, by rw [List.length_append, lw] <;> rfl, ?_, fun d2 hd2 => ?_⟩
        · have ca := OM.counts_at (ps := ps) hd
          rw [List.take_add_one, ca]
          refine Paired.snoc (Paired.imp (fun _ _ z => Sp2.putL (Sp2.same z (Same.new nt)) gW2) pw1) ⟨t, rfl, ?_⟩
          rw [upd_ne Ft, upd_same]
          have : (1 : Int) + (i : Nat) - (g : Nat) = (i : Int) + 1 - (OM.cLt d (ps.map Prod.snd) : Int) := by omega
          show some (HO.tup [V.int d, V.int ((1 : Int) + (i : Nat) - (g : Nat))]) = some (HO.tup [V.int d, V.int ((i : Int) + 1 - (OM.cLt d (ps.map Prod.snd) : Int))])
          rw [this]
        · rw [eg]
          have dd : d ≤ d2 := by
            obtain ⟨h1, h2⟩ := List.getElem?_eq_some_iff.mp hd2
            have := List.pairwise_iff_getElem.mp sb i (i + 1) hi h1 (by omega)
            omega
          exact List.countP_mono_left fun e _ he => by
            simp at he ⊢
            omega
    · obtain ⟨g, s5, s6, ws, rfl, B, gW, lw, pw, gl⟩ := z
      have lc : (OM.counts bs ps).length = (bs.map V.int).length := by unfold OM.counts; simp
      rw [← lc, List.take_length] at pw
      refine ⟨_, rfl, q G F bs pb sb (fun b o e => B b o (ne_of_none e nF0) (e6 _ _ e)) nF0 ⟨ws, gW, pw⟩⟩
theorem scMost : FnScope ["spans", "day", "many"] ["spans"] (defScope sMost) := ⟨rfl, rfl, rfl, by decide +kernel, rfl, by decide +kernel, by decide +kernel⟩
theorem ok_most {f fC : Addr} {fd fdC : FuncData} (F : Fun K "most_at_once" "most_at_once" sMost f fd) (mx : mg "max" = none)
    (GC : FnOk P w K mg base CX0 1 fC fdC ["spans"] spCounts) (gC : mg "counts_at_begins" = some (.ref fC)) (kC : PySem.W.keepIn K (.ref fC) = true) (bC : Binds K fdC ["spans"] []) : FnOk P w K mg base CX0 2 f fd ["spans"] spMost := by
  refine F.ok scMost (fun vs H Q E h => ?_) (fun cdv A outer s H vs Q E hr h => ?_)
  · obtain ⟨a, ps, rfl, _⟩ := h
    rfl
  · obtain ⟨a, ps, rfl, hp, hl, hok, q⟩ := h
    have nd := scMost.nd
    refine ⟨_, pss_one (ps_ret (pe_callB (cr_max rfl) (by rfl) mx (by decide +kernel) (pa_cons (pe_lst (pa_cons pe_int (StX.pa_star (pe_lc (own := [("day", 1), ("many", 2)]) (g := gTup K 2 (gCons (gName 1) (gCons (gName 2) gNil))) (tt := tYes) rfl nd (pi_list (pe_call GC hr (by rfl) gC kC bC .nil pass0 (pa_cons (pv 0) pa_nil)))
          (blkOk_by (N := ["spans", "day", "many"]) (sc := defScope sMost) (by decide +kernel)) (fun _ _ _ _ _ => pg_tup rfl (pgs_cons (pg_name (i := 1) nd rfl (Or.inl rfl)) (pgs_cons (pg_name (i := 2) nd rfl (Or.inl rfl)) pgs_nil))) (fun _ _ _ _ _ => pts_nil) (fun _ _ _ _ _ => pv 2)) pa_nil))) pa_nil))), ?_⟩
    refine ⟨_, rfl, a, ps, rfl, hp, hl, hok, fun H1 D1 bs pb sb e1 n1 hr1 => ?_⟩
    obtain ⟨us, hu, pu⟩ := hr1
    have ll := pu.length
    have lc : (OM.counts bs ps).length = bs.length := by unfold OM.counts; simp
    have lb : bs.length = ps.length := by rw [pb.length_eq, List.length_map]
    refine ⟨D1, rfl, ⟨_, SqL.of hu⟩, fun D nD => ?_⟩
    have m1 : (((OM.counts bs ps).map Prod.snd).map V.int).length = us.length := by simp [ll]
    refine lc_it (walk_list (xs := us)) (AccP D H1 (mapTo (((OM.counts bs ps).map Prod.snd).map V.int))) (acc_start rfl) (fun i G _ z => Same.seq (acc_same z (Same.refl H1) nD) (SqL.of hu)) (fun i x G G' hi z y => ?_) (fun G z => ?_)
    · obtain ⟨rfl, hx⟩ := y
      obtain ⟨p, hpp, t, rfl, ht⟩ := Paired.at pu hx
      refine ⟨t, _, rfl, SqT.of (acc_same z (Same.refl H1) nD _ _ ht), rfl, .int p.1, _, rfl, .int p.2, _, rfl, rfl, rfl, ?_⟩
      dsimp only [tYes]
      rw [if_pos rfl]
      exact ⟨_, rfl, acc_in z (Same.refl _) (mapTo_len (by rw [m1, sizeLine_eq]; omega)) (mapTo_succ (by rw [List.getElem?_map, List.getElem?_map, hpp] <;> rfl))⟩
    rw [← m1] at z
    have gD : G D = some (.lst (((OM.counts bs ps).map Prod.snd).map V.int)) := by rw [z.2, mapTo_all]
    have e2 : Same H G := e1.trans (acc_same z (Same.refl H1) nD)
    refine ⟨D, _, rfl, .inr (SqL.of gD), ?_, fun L nL => ⟨L, 0 :: (OM.counts bs ps).map Prod.snd, rfl, SqL.of ?_, by simp, fun m hm hle => ?_⟩⟩
    · simp only [List.length_cons, List.length_append, List.length_map, List.length_nil, sizeLine_eq] <;> omega
    · rw [upd_same, List.append_nil] <;> rfl
    · have em := OM.maxL_eq hm hle
      rw [OM.most_counts hok pb sb] at em
      rw [em]
      exact q _ (e2.trans (Same.new nL))
end
end OB
namespace OB
open PySem PySem.Spec PyProof.Rows L2
abbrev sBound : Stmt := top 19
theorem good_m {ss : List S3} (g : Good ss) : ∀ s ∈ ss, OM.GoodS s := fun s m => g s m
theorem St.putL {H : Hp} {v : V} {s : S3} {D : Addr} {xs ys : List V} (h : St H v s) (hD : H D = some (.lst xs)) : St (upd H D (.lst ys)) v s := by
  obtain ⟨t, z, h⟩ := h
  refine ⟨t, z, ?_⟩
  rw [upd_ne (ne_of h hD (by intro z; cases z))]
  exact h
/-- a list that grows by new tuples -/
def GrowP {β : Type} (R : Hp → V → β → Prop) (D : Addr) (H1 : Hp) (ys : List β) (i : Nat) (H : Hp) : Prop := ButS D H1 H ∧ ∃ us, H D = some (.lst us) ∧ us.length = i ∧ Paired (R H) us (ys.take i)
theorem grow_start {β : Type} {R : Hp → V → β → Prop} {D : Addr} {H1 : Hp} {ys : List β} : GrowP R D H1 ys 0 (upd H1 D (.lst [])) := ⟨ButS.put, [], upd_same, rfl, by rw [List.take_zero]; exact .nil⟩
theorem grow_same {β : Type} {R : Hp → V → β → Prop} {D : Addr} {H0 H1 H : Hp} {ys : List β} {i : Nat} (q : GrowP R D H1 ys i H) (e : Same H0 H1) (n : H1 D = none) : Same H0 H := fun b o h => q.1 b o (ne_of_none (e _ _ h) n) (e _ _ h)
theorem grow_in {β : Type} {R : Hp → V → β → Prop} {D : Addr} {H1 H H4 : Hp} {ys : List β} {i : Nat} {y : β} {v : V} (st : ∀ G G' v b, Same G G' → R G v b → R G' v b) (pu : ∀ G v b xs zs, G D = some (.lst xs) → R G v b → R (upd G D (.lst zs)) v b)
    (q : GrowP R D H1 ys i H) (hy : ys[i]? = some y) (l : i < 1000000) (e : Same H H4) (r : R H4 v y) : ∃ a, H4 D = some (.lst a) ∧ a.length < sizeLine ∧ GrowP R D H1 ys (i + 1) (upd H4 D (.lst (a ++ [v]))) := by
  obtain ⟨B, us, gD, lu, p⟩ := q
  have gD2 := e _ _ gD
  refine ⟨us, gD2, by rw [sizeLine_eq]; omega, (B.trans (ButS.same e)).trans ButS.put, us ++ [v], upd_same, by rw [List.length_append, lu] <;> rfl, ?_⟩
  rw [List.take_add_one, hy]
  exact Paired.snoc (Paired.imp (fun _ _ z => pu _ _ _ _ _ gD2 (st _ _ _ _ e z)) p) (pu _ _ _ _ _ gD2 r)
theorem grow_end {β : Type} {R : Hp → V → β → Prop} {D : Addr} {H1 H : Hp} {ys : List β} {n : Nat} (q : GrowP R D H1 ys n H) (l : n = ys.length) : ∃ us, H D = some (.lst us) ∧ Paired (R H) us ys := by
  obtain ⟨B, us, gD, lu, p⟩ := q
  rw [l, List.take_length] at p
  exact ⟨us, gD, p⟩
theorem St.st : ∀ (G G' : Hp) (v : V) (b : S3), Same G G' → St G v b → St G' v b := fun _ _ _ _ e h => h.same e
theorem Sp2.st : ∀ (G G' : Hp) (v : V) (b : Int × Int), Same G G' → Sp2 G v b → Sp2 G' v b := fun _ _ _ _ e h => h.same e
def spBound : Sp := fun vs H Q _ => ∃ (a : Addr) (ss : List S3), vs = [.ref a] ∧ Row H a ss ∧ ss.length ≤ 1000 ∧ ∀ H' D, Same H H' → H D = none → PRow H' D (OM.spans ss) → Q (.ref D) H'
def spShort : Sp := fun vs H Q _ => ∃ (a : Addr) (ss : List S3) (l : Int), vs = [.ref a, .int l] ∧ Row H a ss ∧ ss.length ≤ 1000 ∧ ∀ H' D, Same H H' → H D = none → Row H' D (OM.short ss l) → Q (.ref D) H'
def tThree (i : Nat) : Prop := True
section
variable {P : Program} {w : World} {K : PySem.W.Frag} {mg : Str → Option Value} {base : Heap}
theorem scBound : FnScope ["stays", "begin", "end", "life"] ["stays"] (defScope sBound) := ⟨rfl, rfl, rfl, by decide +kernel, rfl, by decide +kernel, by decide +kernel⟩
theorem ok_bound {f : Addr} {fd : FuncData} (F : Fun K "bound_spans" "bound_spans" sBound f fd) : FnOk P w K mg base CX0 1 f fd ["stays"] spBound := by
  refine F.ok scBound (fun vs H Q E h => ?_) (fun cdv A outer s H vs Q E hr h => ?_)
  · obtain ⟨a, ss, rfl, _⟩ := h
    rfl
  · obtain ⟨a, ss, rfl, hp, hl, q⟩ := h
    have nd := scBound.nd
    refine ⟨_, pss_one (ps_ret (pe_lc (own := [("begin", 1), ("end", 2), ("life", 3)]) (g := gTup K 3 (gCons (gName 1) (gCons (gName 2) (gCons (gName 3) gNil)))) (tt := tYes) rfl nd (pi_list (pv 0))
          (blkOk_by (N := ["stays", "begin", "end", "life"]) (sc := defScope sBound) (by decide +kernel)) (fun _ _ _ _ _ => pg_tup rfl (pgs_cons (pg_name (i := 1) nd rfl (Or.inl rfl)) (pgs_cons (pg_name (i := 2) nd rfl (Or.inl rfl)) (pgs_cons (pg_name (i := 3) nd rfl (Or.inl rfl)) pgs_nil)))) (fun _ _ _ _ _ => pts_nil)
          (fun _ _ _ _ _ => pe_tup (pa_cons (pv 1) (pa_cons (pe_op op_add (pv 2) (pv 3)) pa_nil))))), ?_⟩
    obtain ⟨us, hu, pu⟩ := id hp
    have ll := pu.length
    refine ⟨_, rfl, a, rfl, ⟨_, SqL.of hu⟩, fun D nD => ?_⟩
    refine lc_it (walk_list (xs := us)) (GrowP Sp2 D H (OM.spans ss)) grow_start (fun i G _ z => Same.seq (grow_same z (Same.refl H) nD) (SqL.of hu)) (fun i x G G' hi z y => ?_) (fun G z => ?_)
    · obtain ⟨rfl, hx⟩ := y
      obtain ⟨s, hs, t, rfl, ht⟩ := Paired.at pu hx
      refine ⟨t, _, rfl, SqT.of (grow_same z (Same.refl H) nD _ _ ht), rfl, .int s.1, _, rfl, .int s.2.1, _, rfl, .int s.2.2, _, rfl, rfl, rfl, ?_⟩
      dsimp only [tYes]
      rw [if_pos rfl]
      refine ⟨_, rfl, _, rfl, _, rfl, _, _, rfl, rfl, by show 2 ≤ sizeLine; decide, fun T nT => ?_⟩
      exact grow_in (y := (s.1, s.2.1 + s.2.2)) Sp2.st (fun G v b xs zs h r => r.putL h) z (by unfold OM.spans; rw [List.getElem?_map, hs] <;> rfl) (by omega) (Same.new nT) ⟨T, rfl, upd_same⟩
    · obtain ⟨vs, gD, pv⟩ := grow_end z (by unfold OM.spans; rw [List.length_map, ll])
      exact q G D (grow_same z (Same.refl H) nD) nD ⟨vs, gD, pv⟩
end
end OB
namespace OB
open PySem PySem.Spec PyProof.Rows L2
/-! ### what is passed as stays -/
def ArgS (K : PySem.W.Frag) (H : Hp) (v : V) (r : Nat ⊕ List S3) : Prop := match r with
  | .inl i => (i = 0 ∧ ∃ k, Any K H v k ∧ fSeq v k = false) ∨ (∃ (a : Addr) (tp : Bool) (xs : List V) (rs : List (Option S3)), v = .ref a ∧ H a = some (mkX tp xs) ∧ Paired (Thing K H) xs rs ∧ xs.length < 1000 ∧ rs.findIdx? (fun r => r.isNone) = some i)
  | .inr ss => ∃ (a : Addr) (tp : Bool) (xs : List V), v = .ref a ∧ H a = some (mkX tp xs) ∧ Paired (Thing K H) xs (ss.map some) ∧ xs.length < 1000
theorem ArgS.same {K : PySem.W.Frag} {H H' : Hp} {v : V} {r : Nat ⊕ List S3} (h : ArgS K H v r) (e : Same H H') : ArgS K H' v r := by
  cases r with
  | inl i =>
    rcases h with ⟨h0, k, h1, h2⟩ | ⟨a, tp, xs, rs, h1, h2, h3, h4, h5⟩
    · exact .inl ⟨h0, k, h1.same e, h2⟩
    · exact .inr ⟨a, tp, xs, rs, h1, e _ _ h2, Paired.imp (fun _ _ z => Thing.same z e) h3, h4, h5⟩
  | inr ss =>
    obtain ⟨a, tp, xs, h1, h2, h3, h4⟩ := h
    exact ⟨a, tp, xs, h1, e _ _ h2, Paired.imp (fun _ _ z => Thing.same z e) h3, h4⟩
theorem LRow.arg {K : PySem.W.Frag} {H : Hp} {a : Addr} {ss : List S3} (h : LRow H a ss) (g : Good ss) (l : ss.length < 1000) : ArgS K H (.ref a) (.inr ss) := by
  obtain ⟨tp, vs, h1, h2⟩ := h.things (K := K) g
  have := h2.length
  rw [List.length_map] at this
  exact ⟨a, tp, vs, rfl, h1, h2, by omega⟩
theorem things_good {K : PySem.W.Frag} {H : Hp} : ∀ {xs : List V} {ss : List S3}, Paired (Thing K H) xs (ss.map some) → Good ss
  | _, [], _ => fun s m => by cases m
  | _, s :: ss, .cons r t => fun x m => by
    rcases List.mem_cons.mp m with z | z
    · rw [z]
      exact (stay_tup r).1
    · exact things_good t x z
theorem ArgS.good {K : PySem.W.Frag} {H : Hp} {v : V} {ss : List S3} (h : ArgS K H v (.inr ss)) : Good ss ∧ ss.length < 1000 := by
  obtain ⟨a, tp, xs, h1, h2, h3, h4⟩ := h
  have := h3.length
  rw [List.length_map] at this
  exact ⟨things_good h3, by omega⟩
theorem told_arg {K : PySem.W.Frag} {CS : Addr} {H : Hp} {v : V} {r : Nat ⊕ List S3} {Q : VK} {E : XK} (h : ArgS K H v r) (hb : ∀ i, r = .inl i → Bad E H CS "index" (.int (i : Nat)))
    (hk : ∀ ss, r = .inr ss → ∀ H' D, Same H H' → H D = none → Row H' D ss → Q (.ref D) H') : spTold K CS [v] H Q E := by
  cases r with
  | inl i =>
    rcases h with ⟨h0, k, h1, h2⟩ | ⟨a, tp, xs, rs, h1, h2, h3, h4, h5⟩
    · subst h0
      exact ⟨v, rfl, .inl ⟨k, h1, h2, hb 0 rfl⟩⟩
    · refine ⟨v, rfl, .inr ⟨a, tp, xs, rs, h1, h2, h3, h4, fun j hj => ?_, fun ss e => ?_⟩⟩
      · rw [h5] at hj
        obtain rfl := Option.some.inj hj
        exact hb i rfl
      · exfalso
        subst e
        obtain ⟨z1, z2, _⟩ := List.findIdx?_eq_some_iff_getElem.mp h5
        simp at z2
  | inr ss =>
    obtain ⟨a, tp, xs, h1, h2, h3, h4⟩ := h
    refine ⟨v, rfl, .inr ⟨a, tp, xs, _, h1, h2, h3, h4, fun j hj => ?_, fun ss2 e => ?_⟩⟩
    · exfalso
      obtain ⟨z1, z2, _⟩ := List.findIdx?_eq_some_iff_getElem.mp hj
      simp at z2
    · have : ss2 = ss := by
        have := congrArg (List.map fun o : Option S3 => o.getD (0, 0, 0)) e
        rw [List.map_map, List.map_map] at this
        have i : ((fun o : Option S3 => o.getD (0, 0, 0)) ∘ some) = id := rfl
        rw [i, List.map_id, List.map_id] at this
        exact this.symm
      rw [this]
      exact hk ss rfl
def spLeast (K : PySem.W.Frag) (CS : Addr) : Sp := fun vs H Q E => ∃ (v : V) (r : Nat ⊕ List S3), vs = [v] ∧ ArgS K H v r ∧ (∀ i, r = .inl i → Bad E H CS "index" (.int (i : Nat))) ∧ ∀ ss, r = .inr ss → ∀ H', Same H H' → Q (.int (OM.need ss)) H'
def spWith (K : PySem.W.Frag) (CS CL : Addr) : Sp := fun vs H Q E => ∃ (v l : V) (k : Kd) (r : Nat ⊕ List S3), vs = [v, l] ∧ ArgS K H v r ∧ Any K H l k ∧ (∀ i, r = .inl i → Bad E H CS "index" (.int (i : Nat))) ∧ ∀ ss, r = .inr ss → (numV l = false → Bad E H CL "life" l) ∧ (∀ n, l = .int n → 0 ≤ n → ∀ H' D, Same H H' → H D = none → Row H' D (OM.short ss n) → Q (.ref D) H')
/-- a day within a stay, behind its begin -/
def dayIn (s : S3) (v : V) : Bool := match v with
  | .int d => decide (s.1 < d) && decide (d ≤ s.2.1)
  | _ => false
/-- the stay at i parted on day d -/
def moved (ss : List S3) (i : Nat) (s : S3) (d : Int) : List S3 := ss.take i ++ ((s.1, d - 1, s.2.2) :: (d, s.2.1, s.2.2) :: ss.drop (i + 1))
def spMoved (K : PySem.W.Frag) (CS CI CD : Addr) : Sp := fun vs H Q E => ∃ (v ix dy : V) (ki kd : Kd) (r : Nat ⊕ List S3), vs = [v, ix, dy] ∧ ArgS K H v r ∧ Any K H ix ki ∧ Any K H dy kd ∧ (∀ i, r = .inl i → Bad E H CS "index" (.int (i : Nat))) ∧
  ∀ ss, r = .inr ss → (ixV ss.length ix = false → Bad E H CI "index" ix) ∧ (∀ (i : Nat) s, ix = .int (i : Nat) → ss[i]? = some s → (dayIn s dy = false → Bad E H CD "day" dy) ∧ (∀ d, dy = .int d → s.1 < d → d ≤ s.2.1 → ∀ H' D, Same H H' → H D = none → Row H' D (moved ss i s d) → Q (.ref D) H'))
theorem cut_to (xs : List V) (i : Nat) (h : i ≤ xs.length) : cutV xs none (some (i : Int)) = xs.take i := by
  unfold cutV
  rw [HT.sIx_nat, HT.sIx_none]
  have : min xs.length i = i ∨ min i xs.length = i := by omega
  simp [Nat.min_eq_left h]
theorem cut_from (xs : List V) (i : Nat) (h : i ≤ xs.length) : cutV xs (some (i : Int)) none = xs.drop i := by
  unfold cutV
  rw [HT.sIx_nat, HT.sIx_none, Nat.min_eq_left h]
  exact List.take_of_length_le (by rw [List.length_drop] <;> exact Nat.le_refl _)
section
variable {P : Program} {w : World} {K : PySem.W.Frag} {mg : Str → Option Value} {base : Heap}
end
end OB
namespace OB
open PySem PySem.Spec PyProof.Rows L2 RZ
/-! ### == of a def with itself -/
theorem fn_slot_eq : Slot "function" (cmpInfo .Eq).2.1 "object.__eq__" :=
  .of (owner := "object") (n := "__eq__") (by rw [typeLookup_type, builtinLookup_eq_fast]; kernel_rfl) (by decide +kernel) (by decide +kernel) (by decide +kernel)
    (by first | exact .inl (by decide +kernel) | exact .inr (by decide +kernel)) (by rw [isSubtype_type]; kernel_rfl)
def rEqFn (K : PySem.W.Frag) : R2 := fun x y H Q => ∃ (f : Addr) (o : Obj), x = .ref f ∧ y = .ref f ∧ K.lookup f = some o ∧ o.cls = .type "function" ∧ Q (.bl true) H
theorem op_eqFn {X : Cx} (hu : X.A.units + 1 < cLine) : OpR X (compareOp .Eq) (rEqFn X.K) := by
  intro pins s σ H x y v u Q I rx ry h
  obtain ⟨f, o, rfl, rfl, lk, hc, q⟩ := h
  cases (show v = Value.ref f from rx)
  cases (show u = Value.ref f from ry)
  have isF : s.TypeIs (.ref f) "function" := ⟨o, I.kIn f o lk, hc⟩
  show wpAny _ _ (richCompare .Eq (.ref f) (.ref f)) _ _ _
  refine wpAny_richCompare_same_room (T := "function") isF isF fn_slot_eq ?_ (by omega)
  refine wpAny_call (codeAny_call_builtin fn_slot_eq.plain F.cmpEntry_eq (fn_slot_eq.check _ _ _ _ _ _ _ _ isF (F.cmpArgs_eq _ _) (objEq_entry_same ⟨(by intro z; cases z), V.bl true, H, I, rfl, q⟩)))
theorem pe_dead {X : Cx} {e : Expr} : PE X e (fun _ _ _ => False) := ⟨fun _ _ _ _ _ _ h => h.elim⟩
/-! ### the law's comparison of what is found with what is due -/
abbrev sSame : Stmt := top 38
def ItzA (tp : Bool) (K : PySem.W.Frag) (a b : Addr) : It := match tp with
  | true => ItzT K a b
  | false => Itz K a b
theorem lc_zipA {tp : Bool} {K : PySem.W.Frag} {a b : Addr} {xs ys : List V} {g : TG} {tt : TT} {te : TE} {vs : List Nat} {σ : L2.St} {H1 : Hp} {D : Addr} {Qd : Hp → Prop} {H0 : Hp} (fix : SqX tp K H0 a xs) (hl : xs.length = ys.length) (Pv : Nat → Hp → Prop) (h0 : Pv 0 (upd H1 D (.lst []))) (hq : ∀ i H, Pv i H → SqX tp K H a xs ∧ SqX tp K H b ys)
    (hs : ∀ (i : Nat) (x y : V) (T : Addr) (H : Hp), xs[i]? = some x → ys[i]? = some y → Pv i H → H T = none → g (.ref T) (wipe σ vs) (upd H T (.tup [x, y])) fun σ2 H2 => wipe σ2 vs = wipe σ vs ∧ tt σ2 H2 fun k H3 =>
      if k = true then te σ2 H3 fun v H4 => ∃ acc, H4 D = some (.lst acc) ∧ acc.length < sizeLine ∧ Pv (i + 1) (upd H4 D (.lst (acc ++ [v]))) else Pv (i + 1) H3) (hd : ∀ H, Pv xs.length H → Qd H) :
    ∃ W : Nat → Nat → Hp → Prop, (∃ m, W 0 m (upd H1 D (.lst []))) ∧ ∀ i m H, W i m H →
      ((ItzA tp K a b).stop i H ∧ Qd H) ∨ ((ItzA tp K a b).go i H ∧ ∃ Nx : Hp → Prop, (∀ H', Nx H' → ∃ m', m' < m ∧ W (i + 1) m' H') ∧ ∀ v H', (ItzA tp K a b).yld i H v H' → g v (wipe σ vs) H' fun σ2 H2 => wipe σ2 vs = wipe σ vs ∧ tt σ2 H2 fun k H3 =>
        if k = true then te σ2 H3 fun v H4 => ∃ acc, H4 D = some (.lst acc) ∧ acc.length < sizeLine ∧ Nx (upd H4 D (.lst (acc ++ [v]))) else Nx H3) := by
  refine ⟨fun i m H => m = xs.length - i ∧ i ≤ xs.length ∧ Pv i H, ⟨xs.length, rfl, Nat.zero_le _, h0⟩, ?_⟩
  rintro i m H ⟨rfl, hi, p⟩
  obtain ⟨qx, qy⟩ := hq i H p
  by_cases hlt : i < xs.length
  · have hly : i < ys.length := by omega
    have next : ∀ H', Pv (i + 1) H' → ∃ m', m' < xs.length - i ∧ (m' = xs.length - (i + 1) ∧ i + 1 ≤ xs.length ∧ Pv (i + 1) H') := fun H' p' => ⟨xs.length - (i + 1), by omega, rfl, hlt, p'⟩
    cases tp with
    | true =>
      refine .inr ⟨⟨xs, ys, xs[i], ys[i], qx, qy, List.getElem?_eq_getElem hlt, List.getElem?_eq_getElem hly⟩, Pv (i + 1), next, fun v H' y => ?_⟩
      obtain ⟨T, c, w, rfl, hT, rfl, hx, hy⟩ := y
      exact hs i c w T H (hx xs qx) (hy ys qy) p hT
    | false =>
      refine .inr ⟨⟨xs, ys, xs[i], ys[i], qx, qy, List.getElem?_eq_getElem hlt, List.getElem?_eq_getElem hly⟩, Pv (i + 1), next, fun v H' y => ?_⟩
      obtain ⟨T, c, w, rfl, hT, rfl, hx, hy⟩ := y
      exact hs i c w T H (hx xs qx) (hy ys qy) p hT
  · have e : i = xs.length := by omega
    subst e
    cases tp with
    | true => exact .inl ⟨⟨xs, ys, qx, qy, .inl (Nat.le_refl _)⟩, hd H p⟩
    | false => exact .inl ⟨⟨xs, ys, qx, qy, .inl (Nat.le_refl _)⟩, hd H p⟩
theorem zip_pick {tp : Bool} {K : PySem.W.Frag} {H : Hp} {a b : Addr} {xs ys : List V} {R : It → Hp → Prop} (hx : SqX tp K H a xs) (hy : SqX tp K H b ys) (z : R (ItzA tp K a b) H) : (SqL K H a xs ∧ SqL K H b ys ∧ R (Itz K a b) H) ∨ (SqT K H a xs ∧ SqT K H b ys ∧ R (ItzT K a b) H) := by
  cases tp with
  | true => exact .inr ⟨hx, hy, z⟩
  | false => exact .inl ⟨hx, hy, z⟩
/-- alike, its parts being alike by D -/
inductive SameW (K : PySem.W.Frag) (D : Hp → V → V → Prop) (H : Hp) : V → V → Prop where
  | non : SameW K D H .non .non
  | bl (b : Bool) : SameW K D H (.bl b) (.bl b)
  | int (i : Int) : SameW K D H (.int i) (.int i)
  | str {x : Str} (h : x.length ≤ 100) : SameW K D H (.str x) (.str x)
  | fn {f : Addr} {o : Obj} (e : K.lookup f = some o) (c : o.cls = .type "function") : SameW K D H (.ref f) (.ref f)
  | dct {a b : Addr} (ha : H a = some (.dK [])) (hb : H b = some (.dK [])) : SameW K D H (.ref a) (.ref b)
  | seq {tp : Bool} {a b : Addr} {xs ys : List V} (ha : H a = some (mkX tp xs)) (hb : H b = some (mkX tp ys)) (hl : xs.length < 10000000) (hd : Paired (D H) xs ys) : SameW K D H (.ref a) (.ref b)
def SameV (K : PySem.W.Frag) : Nat → Hp → V → V → Prop
  | 0 => fun _ _ _ => False
  | d + 1 => SameW K (SameV K d)
theorem SameW.same {K : PySem.W.Frag} {D : Hp → V → V → Prop} {H H' : Hp} {v w : V} (h : SameW K D H v w) (e : Same H H') (st : ∀ x y, D H x y → D H' x y) : SameW K D H' v w := by
  cases h with
  | non => exact .non
  | bl b => exact .bl b
  | int i => exact .int i
  | str q => exact .str q
  | fn q c => exact .fn q c
  | dct ha hb => exact .dct (e _ _ ha) (e _ _ hb)
  | seq ha hb hl hd => exact .seq (e _ _ ha) (e _ _ hb) hl (Paired.imp st hd)
theorem SameV.same {K : PySem.W.Frag} : ∀ (d : Nat) {H H' : Hp} {v w : V}, SameV K d H v w → Same H H' → SameV K d H' v w
  | 0, _, _, _, _, h, _ => h
  | d + 1, _, _, _, _, h, e => SameW.same h e fun _ _ q => SameV.same d q e
def spSame (D : Hp → V → V → Prop) : Sp := fun vs H Q _ => ∃ v w, vs = [v, w] ∧ D H v w ∧ ∀ H', Same H H' → Q (.bl true) H'
theorem Says6.bi {K : PySem.W.Frag} {H : Hp} {v : V} {k : Kd} {t : Value} (h : Says6 K H v k t) : PySem.W.kitAny K t [.type "bool", .type "int"] = some (k.isBl || (k.isInt || k.isBl)) := by
  refine kitAny_cons h.bool (fun e => ?_) (fun e => by rw [e] <;> rfl)
  have z : (k.isBl || (k.isInt || k.isBl)) = (k.isInt || k.isBl) := by simp [e]
  rw [z]
  exact kitAny_cons h.int (fun e2 => by rw [e2] <;> rfl) (fun e2 => e2)
theorem Says6.five {K : PySem.W.Frag} {H : Hp} {v : V} {k : Kd} {t : Value} (h : Says6 K H v k t) (hb : k.isBl = false) (hi : k.isInt = false) (hl : k.isLst = false) (ht : k.isTup = false) (hd : k.isDct = false) :
    PySem.W.kitAny K t [.type "bool", .type "int", .type "list", .type "tuple", .type "dict"] = some false := by
  refine kitAny_cons h.bool (fun _ => ?_) (fun e => by rw [hb] at e; cases e)
  refine kitAny_cons h.int (fun _ => ?_) (fun e => by rw [hb, hi] at e; cases e)
  refine kitAny_cons h.list (fun _ => ?_) (fun e => by rw [hl] at e; cases e)
  refine kitAny_cons h.tuple (fun _ => ?_) (fun e => by rw [ht] at e; cases e)
  refine kitAny_cons h.dict (fun _ => rfl) (fun e => by rw [hd] at e; cases e)
section
variable {P : Program} {w : World} {K : PySem.W.Frag} {mg : Str → Option Value} {base : Heap}
theorem scSame : FnScope ["found", "due", "one", "other", "key"] ["found", "due"] (defScope sSame) := ⟨rfl, rfl, rfl, by decide +kernel, rfl, by decide +kernel, by decide +kernel⟩
theorem ok_sameS {f : Addr} {fd : FuncData} {d : Nat} {D : Hp → V → V → Prop} (F : Fun K "_law_same" "_law_same" sSame f fd) (gF : mg "_law_same" = some (.ref f)) (T : TxtC mg) (TF : TxtF mg)
    (G : FnOk P w K mg base CX0 (d + 1) f fd ["found", "due"] (spSame D)) (bF : Binds K fd ["found", "due"] []) (dst : ∀ {H H' : Hp} {v w : V}, D H v w → Same H H' → D H' v w) : FnOk P w K mg base CX0 (d + 2) f fd ["found", "due"] (spSame (SameW K D)) := by
  refine F.ok scSame (fun vs H Q E h => ?_) (fun cdv A outer s H vs Q E hr h => ?_)
  · obtain ⟨v, w, rfl, _⟩ := h
    rfl
  · obtain ⟨v, u, rfl, hw, q⟩ := h
    have nd := scSame.nd
    have hu := hu_of hr
    refine ⟨_, pss_cons (ps_if (pt_val (pe_callB call_isAT (by rfl) T.isi bootIsi (pa_cons (pv 1) (pa_cons (pe_tup (pa_cons (pe_bltn (v := .ty "list") (u := .type "list") (by rfl) T.list bList rfl) (pa_cons (pe_bltn (v := .ty "tuple") (u := .type "tuple") (by rfl) T.tuple bTuple rfl) pa_nil))) pa_nil))))
        (pss_cons (ps_if (pt_cmpR op_ne (pe_callB call_isA (by rfl) T.isi bootIsi (pa_cons (pv 0) (pa_cons (pe_bltn (v := .ty "list") (u := .type "list") (by rfl) T.list bList rfl) pa_nil))) (pe_callB call_isA (by rfl) T.isi bootIsi (pa_cons (pv 1) (pa_cons (pe_bltn (v := .ty "list") (u := .type "list") (by rfl) T.list bList rfl) pa_nil))) (nomark _))
          (pss_one (ps_ret pe_bl)) pss_nil)
        (pss_cons (ps_if (PW.pt (pw_or (pt_cmpR op_ne (pe_callB call_isA (by rfl) T.isi bootIsi (pa_cons (pv 0) (pa_cons (pe_bltn (v := .ty "tuple") (u := .type "tuple") (by rfl) T.tuple bTuple rfl) pa_nil))) (pe_callB call_isA (by rfl) T.isi bootIsi (pa_cons (pv 1) (pa_cons (pe_bltn (v := .ty "tuple") (u := .type "tuple") (by rfl) T.tuple bTuple rfl) pa_nil))) (nomark _))
            (pw_or1 (pt_cmpR op_ne (pe_callB call_len_seq (by rfl) T.len PySem.boot_len (pa_cons (pv 0) pa_nil)) (pe_callB call_len_seq (by rfl) T.len PySem.boot_len (pa_cons (pv 1) pa_nil)) (nomark _)))))
          (pss_one (ps_ret pe_bl)) pss_nil)
        (pss_one (ps_ret (pe_callB (cr_all rfl) (by rfl) T.all (by decide +kernel) (pa_cons (pe_lc (own := [("one", 2), ("other", 3)]) (g := gTup K 2 (gCons (gName 2) (gCons (gName 3) gNil))) (tt := tYes) rfl nd (pi_zipA (by rfl) TF.zip (pa_cons (pv 0) (pa_cons (pv 1) pa_nil)))
            (blkOk_by (N := ["found", "due", "one", "other", "key"]) (sc := defScope sSame) (by decide +kernel))
            (fun _ _ _ _ _ => pg_tup rfl (pgs_cons (pg_name (i := 2) nd rfl (Or.inl rfl)) (pgs_cons (pg_name (i := 3) nd rfl (Or.inl rfl)) pgs_nil))) (fun _ _ _ _ _ => pts_nil)
            (fun _ _ _ _ _ => pe_call G hr (by rfl) gF F.kp bF .nil pass0 (pa_cons (pv 2) (pa_cons (pv 3) pa_nil)))) pa_nil)))))) pss_nil)
      (pss_cons (ps_if (pt_val (pe_callB call_isA (by rfl) T.isi bootIsi (pa_cons (pv 1) (pa_cons (pe_bltn (v := .ty "dict") (u := .type "dict") (by rfl) TF.dict bDict rfl) pa_nil))))
        (pss_cons (ps_if (PW.pt (pw_or (pt_not (pt_val (pe_callB call_isA (by rfl) T.isi bootIsi (pa_cons (pv 0) (pa_cons (pe_bltn (v := .ty "dict") (u := .type "dict") (by rfl) TF.dict bDict rfl) pa_nil)))))
            (pw_or1 (pt_cmpR (op_neD hr.units) (pe_callTy (call_list_dK rfl) (by rfl) T.list bList (pa_cons (pv 0) pa_nil)) (pe_callTy (call_list_dK rfl) (by rfl) T.list bList (pa_cons (pv 1) pa_nil)) (nomark _)))))
          (pss_one (ps_ret pe_bl)) pss_nil)
        (pss_one (ps_ret (pe_callB (cr_all rfl) (by rfl) T.all (by decide +kernel) (pa_cons (pe_lock (pe_lc (own := [("key", 4)]) (g := gName 4) (tt := tYes) (te := fun _ _ _ => False) rfl nd (pi_keys (pv 1))
            (blkOk_by (N := ["found", "due", "one", "other", "key"]) (sc := defScope sSame) (by decide +kernel))
            (fun _ _ _ _ _ => pg_name (i := 4) nd rfl (Or.inl rfl)) (fun _ _ _ _ _ => pts_nil) (fun _ _ _ _ _ => pe_dead))) pa_nil))))) pss_nil)
      (pss_cons (ps_if (pt_val (pe_callB call_isAT (by rfl) T.isi bootIsi (pa_cons (pv 1) (pa_cons (pe_tup (pa_cons (pe_bltn (v := .ty "bool") (u := .type "bool") (by rfl) T.bool bBool rfl) (pa_cons (pe_bltn (v := .ty "int") (u := .type "int") (by rfl) T.int bInt rfl) pa_nil))) pa_nil))))
        (pss_one (ps_ret (pe_and (pe_callB call_isA (by rfl) T.isi bootIsi (pa_cons (pv 0) (pa_cons (pe_bltn (v := .ty "int") (u := .type "int") (by rfl) T.int bInt rfl) pa_nil)))
          (pe_and (pe_cmpR op_eq (pe_callB call_isA (by rfl) T.isi bootIsi (pa_cons (pv 0) (pa_cons (pe_bltn (v := .ty "bool") (u := .type "bool") (by rfl) T.bool bBool rfl) pa_nil))) (pe_callB call_isA (by rfl) T.isi bootIsi (pa_cons (pv 1) (pa_cons (pe_bltn (v := .ty "bool") (u := .type "bool") (by rfl) T.bool bBool rfl) pa_nil))) (nomark _))
          (pe_one (pe_cmpR op_eq (pv 0) (pv 1) (nomark _))))))) pss_nil)
      (pss_one (ps_ret (pe_and (pe_not (pe_callB call_isAT (by rfl) T.isi bootIsi (pa_cons (pv 0) (pa_cons (pe_tup (pa_cons (pe_bltn (v := .ty "bool") (u := .type "bool") (by rfl) T.bool bBool rfl) (pa_cons (pe_bltn (v := .ty "int") (u := .type "int") (by rfl) T.int bInt rfl) (pa_cons (pe_bltn (v := .ty "list") (u := .type "list") (by rfl) T.list bList rfl) (pa_cons (pe_bltn (v := .ty "tuple") (u := .type "tuple") (by rfl) T.tuple bTuple rfl) (pa_cons (pe_bltn (v := .ty "dict") (u := .type "dict") (by rfl) TF.dict bDict rfl) pa_nil)))))) pa_nil))))
        (pe_one (pe_cmpR (op_eq.or (op_eqFn hu)) (pv 0) (pv 1) (nomark _)))))))), ?_⟩
    refine ⟨_, rfl, by show 2 ≤ sizeLine; decide, fun tt ntt => ?_⟩
    have e1 : Same H (upd H tt (.tup [.ty "list", .ty "tuple"])) := Same.new ntt
    have g1 : (upd H tt (.tup [.ty "list", .ty "tuple"])) tt = some (.tup [.ty "list", .ty "tuple"]) := upd_same
    generalize upd H tt (.tup [.ty "list", .ty "tuple"]) = H1 at e1 g1 ⊢
    have key : (∃ k, Any K H v k ∧ Any K H u k ∧ k.isLst = false ∧ k.isTup = false ∧ k.isDct = false ∧ k.isBl = false ∧ k.isInt = false ∧ ∀ G, Same H G → rEq v u G Q ∨ rEqFn K v u G Q) ∨ (∃ k, Any K H v k ∧ u = v ∧ k.isLst = false ∧ k.isTup = false ∧ k.isDct = false ∧ (k.isInt || k.isBl) = true ∧ scal v v = true) ∨
        (∃ a b, v = .ref a ∧ u = .ref b ∧ H a = some (.dK []) ∧ H b = some (.dK [])) ∨
        (∃ (tp : Bool) (a b : Addr) (xs ys : List V), v = .ref a ∧ u = .ref b ∧ H a = some (mkX tp xs) ∧ H b = some (mkX tp ys) ∧ xs.length < 10000000 ∧ Paired (D H) xs ys) := by
      cases hw with
      | non => exact .inl ⟨.non, .non, .non, rfl, rfl, rfl, rfl, rfl, fun G e => .inl ⟨rfl, by rw [decide_eq_true rfl]; exact q G e⟩⟩
      | str hx => exact .inl ⟨.str, .str hx, .str hx, rfl, rfl, rfl, rfl, rfl, fun G e => .inl ⟨rfl, by rw [decide_eq_true rfl]; exact q G e⟩⟩
      | @fn f o e c => exact .inl ⟨.fn, .fn e c, .fn e c, rfl, rfl, rfl, rfl, rfl, fun G z => .inr ⟨f, o, rfl, rfl, e, c, q G z⟩⟩
      | bl b => exact .inr (.inl ⟨.bl, .bl b, rfl, rfl, rfl, rfl, rfl, rfl⟩)
      | int i => exact .inr (.inl ⟨.int, .int i, rfl, rfl, rfl, rfl, rfl, rfl⟩)
      | dct ha hb => exact .inr (.inr (.inl ⟨_, _, rfl, rfl, ha, hb⟩))
      | seq ha hb hl hd => exact .inr (.inr (.inr ⟨_, _, _, _, _, rfl, rfl, ha, hb, hl, hd⟩))
    rcases key with ⟨k, av, au, k1, k2, k3, k4, k5, fin⟩ | ⟨k, av, rfl, k1, k2, k3, k4, sc⟩ | ⟨a, b, rfl, rfl, ha, hb⟩ | ⟨tp, a, b, xs, ys, rfl, rfl, ha, hb, hl, hd⟩
    · obtain ⟨tu, U⟩ := (au.same e1).says
      refine ⟨u, tt, _, tu, _, _, rfl, g1, .cons (.ty _) (.cons (.ty _) .nil), U.ty, U.seq, _, rfl, ?_⟩
      rw [k1, k2]
      refine iteF ⟨_, rfl, u, .ty "dict", tu, .type "dict", _, rfl, .ty _, U.ty, U.dict, _, rfl, ?_⟩
      rw [k3]
      refine iteF ⟨_, rfl, by show 2 ≤ sizeLine; decide, fun t3 n3 => ?_⟩
      have e2 : Same H (upd H1 t3 (.tup [.ty "bool", .ty "int"])) := e1.trans (Same.new n3)
      have g2 : (upd H1 t3 (.tup [.ty "bool", .ty "int"])) t3 = some (.tup [.ty "bool", .ty "int"]) := upd_same
      obtain ⟨tw, W2⟩ := (au.same e2).says
      refine ⟨u, t3, _, tw, _, _, rfl, g2, .cons (.ty _) (.cons (.ty _) .nil), W2.ty, W2.bi, _, rfl, ?_⟩
      rw [k4, k5]
      refine iteF ⟨_, rfl, by show 5 ≤ sizeLine; decide, fun t5 n5 => ?_⟩
      have e3 := e2.trans (Same.new (u := .tup [.ty "bool", .ty "int", .ty "list", .ty "tuple", .ty "dict"]) n5)
      obtain ⟨tx, W3⟩ := (av.same e3).says
      refine ⟨v, t5, _, tx, _, _, rfl, upd_same, .cons (.ty _) (.cons (.ty _) (.cons (.ty _) (.cons (.ty _) (.cons (.ty _) .nil)))), W3.ty, W3.five k4 k5 k1 k2 k3, _, rfl, _, rfl, ?_⟩
      exact iteT ⟨_, rfl, _, rfl, fin _ e3⟩
    · obtain ⟨tu, U⟩ := (av.same e1).says
      refine ⟨_, tt, _, tu, _, _, rfl, g1, .cons (.ty _) (.cons (.ty _) .nil), U.ty, U.seq, _, rfl, ?_⟩
      rw [k1, k2]
      refine iteF ⟨_, rfl, _, .ty "dict", tu, .type "dict", _, rfl, .ty _, U.ty, U.dict, _, rfl, ?_⟩
      rw [k3]
      refine iteF ⟨_, rfl, by show 2 ≤ sizeLine; decide, fun t3 n3 => ?_⟩
      have e2 : Same H (upd H1 t3 (.tup [.ty "bool", .ty "int"])) := e1.trans (Same.new n3)
      have g2 : (upd H1 t3 (.tup [.ty "bool", .ty "int"])) t3 = some (.tup [.ty "bool", .ty "int"]) := upd_same
      obtain ⟨tw, W2⟩ := (av.same e2).says
      refine ⟨_, t3, _, tw, _, _, rfl, g2, .cons (.ty _) (.cons (.ty _) .nil), W2.ty, W2.bi, _, rfl, ?_⟩
      have kk : (k.isBl || (k.isInt || k.isBl)) = true := by rw [k4, Bool.or_true]
      rw [kk]
      refine iteT ⟨_, rfl, _, .ty "int", tw, .type "int", _, rfl, .ty _, W2.ty, W2.int, _, rfl, ?_⟩
      rw [k4]
      refine iteT ⟨_, rfl, _, .ty "bool", tw, .type "bool", _, rfl, .ty _, W2.ty, W2.bool, _, rfl, _, .ty "bool", tw, .type "bool", _, rfl, .ty _, W2.ty, W2.bool, rfl, ?_⟩
      rw [decide_eq_true rfl]
      refine ⟨_, rfl, iteT ⟨_, rfl, _, rfl, sc, ?_⟩⟩
      rw [decide_eq_true rfl]
      exact q _ e2
    · have au : Any K H (.ref b) .dct := .dct hb
      have av : Any K H (.ref a) .dct := .dct ha
      obtain ⟨tu, U⟩ := (au.same e1).says
      obtain ⟨tv, W⟩ := (av.same e1).says
      refine ⟨_, tt, _, tu, _, _, rfl, g1, .cons (.ty _) (.cons (.ty _) .nil), U.ty, U.seq, _, rfl, ?_⟩
      refine iteF ⟨_, rfl, _, .ty "dict", tu, .type "dict", _, rfl, .ty _, U.ty, U.dict, _, rfl, ?_⟩
      refine iteT ⟨_, rfl, _, .ty "dict", tv, .type "dict", _, rfl, .ty _, W.ty, W.dict, _, rfl, ?_⟩
      refine iteF ⟨_, rfl, a, [], rfl, e1 _ _ ha, fun l1 n1 => ⟨_, rfl, b, [], rfl, Same.new n1 _ _ (e1 _ _ hb), fun l2 n2 => ?_⟩⟩
      have e2 := (e1.trans (Same.new (u := .lst []) n1)).trans (Same.new (u := .lst []) n2)
      have gl1 : (upd (upd H1 l1 (.lst [])) l2 (.lst [])) l1 = some (.lst []) := Same.new n2 _ _ upd_same
      have gl2 : (upd (upd H1 l1 (.lst [])) l2 (.lst [])) l2 = some (.lst []) := upd_same
      show rNeD _ _ _ (upd (upd H1 l1 (.lst [])) l2 (.lst [])) _
      generalize upd (upd H1 l1 (.lst [])) l2 (.lst []) = J at e2 gl1 gl2 ⊢
      refine ⟨.list [], .list [], .lst (SqL.of gl1) .nil, .lst (SqL.of gl2) .nil, rfl, rfl, _, rfl, ?_⟩
      have hb2 := e2 _ _ hb
      have z : PyData.eqv (.list []) (.list []) = true := by decide +kernel
      rw [z]
      refine iteF ⟨b, .dK [], hb2, trivial, fun od => ⟨_, rfl, b, od, rfl, .inl ⟨[], upd_same, ?_⟩⟩⟩
      intro D2 nD
      refine lc_it (te := fun _ _ _ => False) (walk_keys (kvs := ([] : List (Key × V)))) (fun i G => i = 0 → ButS D2 (upd J b (.frz od (.dK []))) G ∧ G D2 = some (.lst [])) (fun _ => ⟨ButS.put, upd_same⟩) (fun i G hi z => ?_) (fun i x G G' hi _ _ => absurd hi (Nat.not_lt_zero i)) (fun G z => ?_)
      · obtain ⟨z1, _⟩ := z (Nat.le_zero.mp hi)
        refine z1 _ _ (ne_of_none (o := .frz od (.dK [])) upd_same nD) upd_same
      · obtain ⟨z1, z2⟩ := z rfl
        have bD : b ≠ D2 := ne_of_none (o := .frz od (.dK [])) upd_same nD
        refine ⟨z1 _ _ bD upd_same, D2, [], rfl, SqL.of (by rw [upd_ne bD.symm]; exact z2), q _ fun c o e => ?_⟩
        have ec := e2 _ _ e
        by_cases hcb : c = b
        · subst hcb
          rw [upd_same, ← ec, hb2]
        · rw [upd_ne hcb]
          refine z1 c o (fun y => ?_) (by rw [upd_ne hcb]; exact ec)
          rw [y] at ec
          have : (upd J b (.frz od (.dK []))) D2 = some o := by rw [upd_ne bD.symm]; exact ec
          rw [nD] at this
          cases this
    · have au : Any K H (.ref b) (if tp = true then .tup else .lst) := by
        cases tp with
        | true => exact .tup hb
        | false => exact .lst hb
      have av : Any K H (.ref a) (if tp = true then .tup else .lst) := by
        cases tp with
        | true => exact .tup ha
        | false => exact .lst ha
      obtain ⟨tu, U⟩ := (au.same e1).says
      obtain ⟨tv, W⟩ := (av.same e1).says
      have k1 : ((if tp = true then Kd.tup else Kd.lst).isLst || (if tp = true then Kd.tup else Kd.lst).isTup) = true := by cases tp <;> rfl
      refine ⟨_, tt, _, tu, _, _, rfl, g1, .cons (.ty _) (.cons (.ty _) .nil), U.ty, U.seq, _, rfl, ?_⟩
      rw [k1]
      refine iteT ⟨_, rfl, _, .ty "list", tv, .type "list", _, rfl, .ty _, W.ty, W.list, _, rfl, _, .ty "list", tu, .type "list", _, rfl, .ty _, U.ty, U.list, rfl, _, rfl, ?_⟩
      rw [decide_eq_true rfl]
      refine iteF ⟨_, rfl, _, .ty "tuple", tv, .type "tuple", _, rfl, .ty _, W.ty, W.tuple, _, rfl, _, .ty "tuple", tu, .type "tuple", _, rfl, .ty _, U.ty, U.tuple, rfl, _, rfl, ?_⟩
      rw [decide_eq_true rfl]
      have hxa : SqX tp K H1 a xs := SqX.at (e1 _ _ ha)
      have hxb : SqX tp K H1 b ys := SqX.at (e1 _ _ hb)
      have hlen := hd.length
      refine iteF ⟨_, rfl, a, xs, rfl, hxa.or, _, rfl, b, ys, rfl, hxb.or, rfl, _, rfl, ?_⟩
      rw [hlen, decide_eq_true rfl]
      refine iteF ⟨_, rfl, _, rfl, a, b, xs, ys, rfl, ?_⟩
      cases tp
      all_goals first | refine .inl ⟨hxa, hxb, ?_⟩ | refine .inr ⟨hxa, hxb, ?_⟩
      all_goals
        intro D2 nD
        have nD0 : H D2 = none := e1.free nD
        refine lc_zipA hxa hlen (fun i G => (∀ c o, c ≠ D2 → H1 c = some o → G c = some o) ∧ G D2 = some (.lst ((xs.take i).map fun _ => V.bl true))) ⟨fun c o nb e => by rw [upd_ne nb]; exact e, by rw [upd_same]; rfl⟩ (fun i G q => ?_) (fun i x y TT G hx hy ⟨k1, k2⟩ nT => ?_) (fun G ⟨k1, k2⟩ => ?_)
        · have eG : Same H G := fun c o e => q.1 c o (ne_of_none e nD0) (e1 _ _ e)
          exact ⟨SqX.at (eG _ _ ha), SqX.at (eG _ _ hb)⟩
        · refine ⟨TT, _, rfl, SqT.of upd_same, rfl, x, _, rfl, y, _, rfl, rfl, rfl, ?_⟩
          dsimp only [tYes]
          rw [if_pos rfl]
          obtain ⟨y2, hy2, dd⟩ := L2.paired_get hd hx
          rw [hy] at hy2
          cases hy2
          have eG : Same H (upd G TT (.tup [x, y])) := fun c o e => by
            have z1 := k1 c o (ne_of_none e nD0) (e1 _ _ e)
            rw [upd_ne (ne_of_none z1 nT)]
            exact z1
          refine ⟨_, rfl, _, rfl, x, y, rfl, dst dd eG, fun G2 e2 => ?_⟩
          refine ⟨_, e2 _ _ (Same.new nT _ _ k2), ?_, fun c o nb e => ?_, ?_⟩
          · rw [List.length_map, List.length_take, sizeLine_eq]
            omega
          · rw [upd_ne nb]
            exact e2 _ _ (Same.new nT _ _ (k1 c o nb e))
          · rw [upd_same, List.take_add_one, hx, List.map_append]
            rfl
        · rw [List.take_length] at k2
          have e2 : Same H G := fun c o e => k1 c o (ne_of_none e nD0) (e1 _ _ e)
          refine ⟨D2, xs.map fun _ => true, rfl, SqL.of (by rw [k2, List.map_map]; rfl), ?_⟩
          have all : (xs.map fun _ => true).all id = true := by
            rw [List.all_map]
            exact List.all_eq_true.mpr fun _ _ => rfl
          rw [all]
          exact q G e2
/-- every depth -/
theorem ok_same {f : Addr} {fd : FuncData} (F : Fun K "_law_same" "_law_same" sSame f fd) (gF : mg "_law_same" = some (.ref f)) (T : TxtC mg) (TF : TxtF mg) (bF : Binds K fd ["found", "due"] []) : ∀ d, FnOk P w K mg base CX0 (d + 1) f fd ["found", "due"] (spSame (SameV K d))
  | 0 => F.ok scSame (fun vs H Q E h => by
      obtain ⟨_, _, _, z, _⟩ := h
      exact z.elim) (fun cdv A outer s H vs Q E hr h => by
      obtain ⟨_, _, _, z, _⟩ := h
      exact z.elim)
  | d + 1 => ok_sameS F gF T TF (ok_same F gF T TF bF d) bF fun h e => SameV.same d h e
end
end OB
namespace OB
open PySem PySem.Spec PyProof.Rows L2
abbrev sAsL : Stmt := top 39
abbrev sOdd : Stmt := top 42
/-! ### lists for tuples, here and there -/
def spAs (c : Nat) {β : Type} (J : Hp → V → β → Prop) (R : Addr → Hp → V → β → Prop) : Sp := fun vs H Q _ => ∃ (p a : Addr) (tq : Bool) (xs : List V) (ys : List β) (n : Nat), vs = [.ref p, .ref a] ∧ Src n H p ∧ n + c * xs.length + 1 < 1000000000 ∧ H a = some (mkX tq xs) ∧ a ≠ p ∧ Paired (J H) xs ys ∧ xs.length < 1000 ∧
  ∀ H' t tr us, ButS p H H' → Src (n + c * xs.length + 1) H' p → H t = none → t ≠ p → H' t = some (mkX tr us) → Paired (R p H') us ys → Q (.ref t) H'
def spAs0 : Sp := fun vs H Q _ => ∃ (p : Addr) (i : Int), vs = [.ref p, .int i] ∧ ∀ H', Same H H' → Q (.int i) H'
section
variable {P : Program} {w : World} {K : PySem.W.Frag} {mg : Str → Option Value} {base : Heap}
theorem pss_dead {X : Cx} {st : List Stmt} : PSs X st (fun _ _ _ => False) := ⟨fun _ _ _ _ _ _ h => h.elim⟩
theorem scAsL : FnScope ["stream", "thing", "found", "part"] ["stream", "thing"] (defScope sAsL) := ⟨rfl, rfl, rfl, by decide +kernel, rfl, by decide +kernel, by decide +kernel⟩
theorem ok_as0 {f : Addr} {fd : FuncData} (F : Fun K "_law_as_lists" "_law_as_lists" sAsL f fd) (T : TxtC mg) : FnOk P w K mg base CX0 1 f fd ["stream", "thing"] spAs0 := by
  refine F.ok scAsL (fun vs H Q E h => ?_) (fun cdv A outer s H vs Q E hr h => ?_)
  · obtain ⟨p, i, rfl, _⟩ := h
    rfl
  · obtain ⟨p, i, rfl, q⟩ := h
    refine ⟨_, pss_cons (ps_if (pt_val (pe_callB call_isAT (by rfl) T.isi bootIsi (pa_cons (pv 1) (pa_cons (pe_tup (pa_cons (pe_bltn (v := .ty "list") (u := .type "list") (by rfl) T.list bList rfl) (pa_cons (pe_bltn (v := .ty "tuple") (u := .type "tuple") (by rfl) T.tuple bTuple rfl) pa_nil))) pa_nil)))) pss_dead pss_nil)
      (pss_one (ps_ret (pv 1))), ?_⟩
    refine ⟨_, rfl, by show 2 ≤ sizeLine; decide, fun tt ntt => ?_⟩
    have au : Any K (upd H tt (.tup [.ty "list", .ty "tuple"])) (.int i) .int := .int i
    obtain ⟨tu, U⟩ := au.says
    exact ⟨_, tt, _, tu, _, _, rfl, upd_same, .cons (.ty _) (.cons (.ty _) .nil), U.ty, U.seq, _, rfl, iteF ⟨_, rfl, q _ (Same.new ntt)⟩⟩
theorem ok_asS {f fD : Addr} {fd fdD : FuncData} {d c : Nat} {sp0 : Sp} {β : Type} {J : Hp → V → β → Prop} {R : Addr → Hp → V → β → Prop} (F : Fun K "_law_as_lists" "_law_as_lists" sAsL f fd) (gF : mg "_law_as_lists" = some (.ref f)) (bF : Binds K fd ["stream", "thing"] []) (T : TxtC mg)
    (GD : FnOk P w K mg base CX0 1 fD fdD ["stream", "many"] spDraw) (gD : mg "_law_draw" = some (.ref fD)) (kD : PySem.W.keepIn K (.ref fD) = true) (bD : Binds K fdD ["stream", "many"] [])
    (G : FnOk P w K mg base CX0 (d + 1) f fd ["stream", "thing"] sp0)
    (hin : ∀ (p : Addr) (x : V) (y : β) (H : Hp) (n : Nat) (Q : VK), J H x y → Src n H p → n + c < 1000000000 → (∀ H' v, ButS p H H' → Src (n + c) H' p → (∀ D, H D ≠ none → v ≠ .ref D) → R p H' v y → Q v H') → sp0 [.ref p, x] H Q E0)
    (jst : ∀ (p : Addr) (H H' : Hp) (n : Nat) (x : V) (y : β), Src n H p → ButS p H H' → J H x y → J H' x y) (rst : ∀ (p : Addr) (H H' : Hp) (v : V) (y : β), ButS p H H' → R p H v y → R p H' v y) (rput : ∀ (p D : Addr) (H : Hp) (o : HO) (v : V) (y : β), v ≠ .ref D → R p H v y → R p (upd H D o) v y) :
    FnOk P w K mg base CX0 (d + 2) f fd ["stream", "thing"] (spAs c J R) := by
  refine F.ok scAsL (fun vs H Q E h => ?_) (fun cdv A outer s H vs Q E hr h => ?_)
  · obtain ⟨p, a, tq, xs, ys, n, rfl, _⟩ := h
    rfl
  · obtain ⟨p, a, tq, xs, ys, n, rfl, S, hn, ha, ap, pj, hl, q⟩ := h
    have nd := scAsL.nd
    have hr1 := hr.mono (Nat.succ_le_succ (Nat.zero_le d))
    refine ⟨_, pss_cons (ps_if (pt_val (pe_callB call_isAT (by rfl) T.isi bootIsi (pa_cons (pv 1) (pa_cons (pe_tup (pa_cons (pe_bltn (v := .ty "list") (u := .type "list") (by rfl) T.list bList rfl) (pa_cons (pe_bltn (v := .ty "tuple") (u := .type "tuple") (by rfl) T.tuple bTuple rfl) pa_nil))) pa_nil))))
        (pss_cons (ps_setLc (i := 2) (own := [("part", 3)]) (g := gName 3) (tt := tYes) rfl nd rfl rfl (sw_true rfl rfl rfl (by decide +kernel)) (pi_X (pv 1)) (blkOk_by (N := ["stream", "thing", "found", "part"]) (sc := defScope sAsL) (by decide +kernel))
          (fun _ _ _ _ _ => pg_name (i := 3) nd rfl (Or.inl rfl)) (fun _ _ _ _ _ => pts_nil) (fun _ _ _ _ _ => pe_call G hr (by rfl) gF F.kp bF .nil pass0 (pa_cons (pv 0) (pa_cons (pv 3) pa_nil))))
        (pss_one (ps_ret (pe_ifExp (pt_cmpR op_eq (pe_call GD hr1 (by rfl) gD kD bD .nil pass0 (pa_cons (pv 0) (pa_cons pe_int pa_nil))) pe_int (nomark _)) (pv 2) (pe_callTy call_tuple_of (by rfl) T.tuple (by decide +kernel) (pa_cons (pv 2) pa_nil)))))) pss_nil)
      (pss_one (ps_ret (pv 1))), ?_⟩
    refine ⟨_, rfl, by show 2 ≤ sizeLine; decide, fun tt ntt => ?_⟩
    have e1 : Same H (upd H tt (.tup [.ty "list", .ty "tuple"])) := Same.new ntt
    obtain ⟨k, ax, kk⟩ : ∃ k, Any K (upd H tt (.tup [.ty "list", .ty "tuple"])) (.ref a) k ∧ (k.isLst || k.isTup) = true := by
      cases tq with
      | true => exact ⟨.tup, .tup (e1 _ _ ha), rfl⟩
      | false => exact ⟨.lst, .lst (e1 _ _ ha), rfl⟩
    obtain ⟨tu, U⟩ := ax.says
    refine ⟨_, tt, _, tu, _, _, rfl, upd_same, .cons (.ty _) (.cons (.ty _) .nil), U.ty, U.seq, _, rfl, ?_⟩
    rw [kk]
    refine iteT ⟨_, rfl, tq, a, xs, rfl, SqX.at (e1 _ _ ha), fun D nD => ?_⟩
    have S1 : Src n (upd H tt (.tup [.ty "list", .ty "tuple"])) p := S.same e1
    have ha1 := e1 _ _ ha
    generalize upd H tt (.tup [.ty "list", .ty "tuple"]) = H1 at e1 nD S1 ha1
    have nD0 : H D = none := e1.free nD
    have Dp : D ≠ p := S1.ne nD
    have aD : a ≠ D := ne_of_none ha1 nD
    have ll := pj.length
    have bp : ∀ {G : Hp}, (∀ b o, b ≠ D → b ≠ p → H1 b = some o → G b = some o) → ButS p H G := fun k b o nb e => k b o (ne_of_none e nD0) nb (e1 _ _ e)
    refine lc_X (xs := xs) (fun i J => (∀ b o, b ≠ D → b ≠ p → H1 b = some o → J b = some o) ∧ Src (n + c * i) J p ∧ ∃ us, J D = some (.lst us) ∧ us.length = i ∧ Paired (fun v y => R p J v y ∧ v ≠ .ref D) us (ys.take i))
      ⟨fun b o nb _ e => by rw [upd_ne nb]; exact e, S1.but nD, [], upd_same, rfl, by rw [List.take_zero]; exact .nil⟩ (fun i J z => SqX.at (z.1 _ _ aD ap ha1)) (fun i x J hi z => ?_) (fun J z => ?_)
    · obtain ⟨k1, SJ, us, gD, lu, pu⟩ := z
      refine ⟨rfl, ?_⟩
      dsimp only [tYes]
      rw [if_pos rfl]
      have hlt := (List.getElem?_eq_some_iff.mp hi).1
      obtain ⟨y, hy, jy⟩ := Paired.at pj hi
      have hci : c * i + c ≤ c * xs.length := by
        rw [← Nat.mul_succ]
        exact Nat.mul_le_mul_left c hlt
      refine ⟨_, rfl, _, rfl, hin p x y J (n + c * i) _ (jst p H J n x y S (bp k1) jy) SJ (by omega) fun J2 v B2 S2 nv rv => ?_⟩
      have gD2 := B2 _ _ Dp gD
      have vD : v ≠ .ref D := nv D (by rw [gD]; simp)
      refine ⟨us, gD2, by rw [sizeLine_eq]; omega, fun b o nb np e => by rw [upd_ne nb]; exact B2 _ _ np (k1 b o nb np e), ?_, us ++ [v], upd_same, by rw [List.length_append, lu] <;> rfl, ?_⟩
      · have := (S2.put Dp (u := .lst (us ++ [v])))
        rw [Nat.mul_succ, ← Nat.add_assoc]
        exact this
      · rw [List.take_add_one, hy]
        exact Paired.snoc (Paired.imp (fun v' y' z => ⟨rput p D _ _ _ _ z.2 (rst p J J2 v' y' B2 z.1), z.2⟩) pu) ⟨rput p D _ _ _ _ vD rv, vD⟩
    · obtain ⟨k1, SJ, us, gD, lu, pu⟩ := z
      rw [ll, List.take_length] at pu
      have pu := Paired.imp (fun _ _ z => z.1) pu
      refine ⟨_, rfl, p, 2, _, rfl, SJ, by omega, by decide, by decide, fun J3 m B3 S3 m0 m1 => ?_⟩
      have B4 := (bp k1).trans B3
      have g3 : J3 D = some (.lst us) := B3 _ _ Dp gD
      have pu3 : Paired (R p J3) us ys := Paired.imp (fun v y z => rst p J J3 v y B3 z) pu
      refine ⟨rfl, _, rfl, ?_⟩
      refine ite2 (fun _ => ⟨_, rfl, q J3 D false us B4 S3 nD0 Dp g3 pu3⟩) (fun _ => ?_)
      refine ⟨_, rfl, D, us, rfl, .inl ⟨SqL.of g3, fun E' nE => ?_⟩⟩
      exact q _ E' true us (B4.trans (ButS.same (Same.new nE))) (S3.but nE) (S3.free B4 nE) (S3.ne nE) upd_same (Paired.imp (fun v y z => rst p _ _ v y (ButS.same (Same.new nE)) z) pu3)
/-! ### stays, and lists and tuples of them -/
/-- a stay as a list or a tuple, not the stream -/
def LStP (p : Addr) (H : Hp) (v : V) (s : S3) : Prop := ∃ (tp : Bool) (t : Addr), v = .ref t ∧ t ≠ p ∧ H t = some (mkX tp [.int s.1, .int s.2.1, .int s.2.2])
def LRowP (p : Addr) (H : Hp) (a : Addr) (ss : List S3) : Prop := a ≠ p ∧ ∃ tp vs, H a = some (mkX tp vs) ∧ Paired (LStP p H) vs ss
theorem LStP.but {p : Addr} {H H' : Hp} {v : V} {s : S3} (h : LStP p H v s) (b : ButS p H H') : LStP p H' v s := by
  obtain ⟨tp, t, e, n, h⟩ := h
  exact ⟨tp, t, e, n, b _ _ n h⟩
theorem LRowP.but {p : Addr} {H H' : Hp} {a : Addr} {ss : List S3} (h : LRowP p H a ss) (b : ButS p H H') : LRowP p H' a ss := by
  obtain ⟨n, tp, vs, h1, h2⟩ := h
  exact ⟨n, tp, vs, b _ _ n h1, Paired.imp (fun _ _ z => LStP.but z b) h2⟩
theorem LRowP.l {p : Addr} {H : Hp} {a : Addr} {ss : List S3} (h : LRowP p H a ss) : LRow H a ss := by
  obtain ⟨n, tp, vs, h1, h2⟩ := h
  exact ⟨tp, vs, h1, Paired.imp (fun v s ⟨tp, t, e, _, h⟩ => ⟨tp, t, e, h⟩) h2⟩
theorem St.but {n : Nat} {p : Addr} {H H' : Hp} {v : V} {s : S3} (h : St H v s) (S : Src n H p) (b : ButS p H H') : St H' v s := by
  obtain ⟨t, e, h⟩ := h
  refine ⟨t, e, b _ _ (fun z => ?_) h⟩
  obtain ⟨d, x, c, hp, _⟩ := S
  rw [z, hp] at h
  cases h
theorem Row.but {n : Nat} {p : Addr} {H H' : Hp} {a : Addr} {ss : List S3} (h : Row H a ss) (S : Src n H p) (np : a ≠ p) (b : ButS p H H') : Row H' a ss := by
  obtain ⟨vs, h1, h2⟩ := h
  exact ⟨vs, b _ _ np h1, Paired.imp (fun _ _ z => St.but z S b) h2⟩
/-- a stay's tuple as a thing to be gone through -/
def spAs1 : Sp := spAs 0 (fun _ x (i : Int) => x = .int i) (fun _ _ v (i : Int) => v = .int i)
def spAs2 : Sp := spAs 1 St LStP
theorem ok_asL {f fD : Addr} {fd fdD : FuncData} (F : Fun K "_law_as_lists" "_law_as_lists" sAsL f fd) (gF : mg "_law_as_lists" = some (.ref f)) (bF : Binds K fd ["stream", "thing"] []) (T : TxtC mg)
    (GD : FnOk P w K mg base CX0 1 fD fdD ["stream", "many"] spDraw) (gD : mg "_law_draw" = some (.ref fD)) (kD : PySem.W.keepIn K (.ref fD) = true) (bD : Binds K fdD ["stream", "many"] []) : FnOk P w K mg base CX0 3 f fd ["stream", "thing"] spAs2 := by
  have G1 : FnOk P w K mg base CX0 2 f fd ["stream", "thing"] spAs1 := ok_asS F gF bF T GD gD kD bD (ok_as0 F T) (fun p x y H n Q j S _ q => by
    subst j
    exact ⟨p, y, rfl, fun H' e => q H' _ (ButS.same e) (S.same e) (fun D _ => by intro z; cases z) rfl⟩) (fun _ _ _ _ _ _ _ _ j => j) (fun _ _ _ _ _ _ r => r) (fun _ _ _ _ _ _ _ r => r)
  refine ok_asS F gF bF T GD gD kD bD G1 (fun p x s H n Q j S hn q => ?_) (fun p H H' n x s S b j => j.but S b) (fun p H H' v s b r => r.but b) (fun p D H o v s ne r => ?_)
  · obtain ⟨t, rfl, ht⟩ := j
    have tp : t ≠ p := fun z => by
      obtain ⟨d, x, c, hp, _⟩ := S
      rw [z, hp] at ht
      cases ht
    refine ⟨p, t, true, _, [s.1, s.2.1, s.2.2], n, rfl, S, by omega, ht, tp, .cons rfl (.cons rfl (.cons rfl .nil)), by show 3 < 1000; decide, fun H' r tr us B S' nr rp hr pu => ?_⟩
    have eu : us = [.int s.1, .int s.2.1, .int s.2.2] := by
      cases pu with
      | cons a r =>
        cases r with
        | cons b r =>
          cases r with
          | cons c r =>
            cases r
            rw [a, b, c]
    refine q H' (.ref r) B (S'.mono (by omega)) (fun D hD z => ?_) ⟨tr, r, rfl, rp, by rw [hr, eu]⟩
    cases z
    exact hD nr
  · obtain ⟨tp, t, rfl, n, h⟩ := r
    refine ⟨tp, t, rfl, n, ?_⟩
    rw [upd_ne (fun z => ne (by rw [z]))]
    exact h
end
end OB
namespace OB
open PySem PySem.Spec PyProof.Rows L2
def SmallS (ss : List S3) : Prop := ∀ s ∈ ss, s.1 ≤ 10 ^ 15 ∧ s.2.1 ≤ 10 ^ 15 ∧ s.2.2 ≤ 10 ^ 15
def spStays : Sp := fun vs H Q _ => ∃ (p : Addr) (most : Int) (n : Nat), vs = [.ref p, .int most] ∧ Src n H p ∧ n < 100000000 ∧ 0 ≤ most ∧ most ≤ 60 ∧ ∀ H' D ss, ButS p H H' → Src (n + 1000) H' p → H D = none → D ≠ p → Row H' D ss → Good ss → SmallS ss → (ss.length : Int) ≤ most → Q (.ref D) H'
theorem Row.put {n : Nat} {H : Hp} {p D : Addr} {s : S3} {ss : List S3} {us : List V} (pu : Paired (St H) us ss) (gD : H D = some (.lst us)) (t : Addr) (ht : H t = some (.tup [.int s.1, .int s.2.1, .int s.2.2])) :
    Row (upd H D (.lst (us ++ [.ref t]))) D (ss ++ [s]) := by
  refine ⟨_, upd_same, Paired.snoc (Paired.imp (fun _ _ z => z.putL gD) pu) ?_⟩
  exact St.putL ⟨t, rfl, ht⟩ gD
section
variable {P : Program} {w : World} {K : PySem.W.Frag} {mg : Str → Option Value} {base : Heap}
theorem pick_int {K : PySem.W.Frag} {p : Addr} {H : Hp} {n : Nat} {is : List Int} {Q : VK} {E : XK} (S : Src n H p) (hn : n < 1000000000) {t : Addr} (nt : H t = none) (hl : 0 < is.length) (hl2 : is.length < 1000000) (q : ∀ H' i, ButS p H H' → Src (n + 1) H' p → i ∈ is → Q (.int i) H') :
    spPick K [.ref p, .ref t] (upd H t (.lst (is.map V.int))) Q E := by
  have S1 : Src n (upd H t (.lst (is.map V.int))) p := S.but nt
  refine ⟨p, t, is.map V.int, n, rfl, S1, hn, SqL.of upd_same, S.ne nt, by rw [List.length_map]; exact hl, by rw [List.length_map]; exact hl2, fun H' j x B S' hx => ?_⟩
  rw [List.getElem?_map] at hx
  obtain ⟨i, hi, rfl⟩ := Option.map_eq_some_iff.mp hx
  exact q H' i ((ButS.same (Same.new nt)).trans B) S' (List.mem_of_getElem? hi)
end
end OB
namespace OB
open PySem PySem.Spec PyProof.Rows L2
abbrev sLast : Stmt := top 41
theorem ix_tupK {X : Cx} {K : PySem.W.Frag} (h : X.K = K) : IxR X (rIxT K) := by
  subst h
  exact ix_tup
def spLast : Sp := fun vs H Q _ => ∃ (v : V) (s : S3), vs = [v] ∧ St H v s ∧ ∀ H', Same H H' → Q (.int (s.2.1 + s.2.2)) H'
def spLBound : Sp := fun vs H Q _ => ∃ (a : Addr) (ss : List S3) (d : Int), vs = [.ref a, .int d] ∧ Row H a ss ∧ ss.length ≤ 1000 ∧ ∀ H', Same H H' → Q (.int (OM.cB (OM.spans ss) d : Nat)) H'
def spLLeast : Sp := fun vs H Q _ => ∃ (a : Addr) (ss : List S3), vs = [.ref a] ∧ Row H a ss ∧ ss.length ≤ 1000 ∧ ∀ H', Same H H' → Q (.int (OM.need ss)) H'
section
variable {P : Program} {w : World} {K : PySem.W.Frag} {mg : Str → Option Value} {base : Heap}
theorem scLast : FnScope ["stay"] ["stay"] (defScope sLast) := ⟨rfl, rfl, rfl, by decide +kernel, rfl, by decide +kernel, by decide +kernel⟩
theorem ok_last {f : Addr} {fd : FuncData} (F : Fun K "_law_last" "_law_last" sLast f fd) : FnOk P w K mg base CX0 1 f fd ["stay"] spLast := by
  refine F.ok scLast (fun vs H Q E h => ?_) (fun cdv A outer s H vs Q E hr h => ?_)
  · obtain ⟨v, s, rfl, _⟩ := h
    rfl
  · obtain ⟨v, s, rfl, ⟨t, rfl, ht⟩, q⟩ := h
    refine ⟨_, pss_one (ps_ret (pe_op op_add (pe_ix ix_tup (pv 0) pe_int (fun _ _ => rfl)) (pe_ix ix_tup (pv 0) pe_int (fun _ _ => rfl)))), ?_⟩
    exact ⟨_, rfl, t, _, ((1 : Nat) : Int), .int s.2.1, rfl, rfl, SqT.of ht, atI_nat rfl, _, rfl, t, _, ((2 : Nat) : Int), .int s.2.2, rfl, rfl, SqT.of ht, atI_nat rfl, _, _, rfl, rfl, q _ (Same.refl H)⟩
end
end OB
namespace OB
open PySem PySem.Spec PyProof.Rows L2
/-! ### set of a list of whole numbers; sorted of it -/
def fewI (xs : List Int) : Nat → Nat
  | 0 => 0
  | i + 1 => if xs.getD i 0 ∈ xs.take i then fewI xs i else fewI xs i + 1
theorem fewI_le (xs : List Int) : ∀ i, fewI xs i ≤ i
  | 0 => Nat.le_refl _
  | i + 1 => by
    have z := fewI_le xs i
    unfold fewI
    split <;> omega
theorem takeI_more {xs : List Int} {i : Nat} (h : i < xs.length) : xs.take (i + 1) = xs.take i ++ [xs.getD i 0] := by
  rw [List.take_add_one, List.getElem?_eq_getElem h, List.getD_eq_getElem?_getD, List.getElem?_eq_getElem h] <;> rfl
theorem memI_more {xs : List Int} {i : Nat} (h : i < xs.length) (y : Int) : (decide (y ∈ xs.take i) || decide (y = xs.getD i 0)) = decide (y ∈ xs.take (i + 1)) := by
  rw [takeI_more h, Bool.eq_iff_iff]
  simp
theorem ints_len : ∀ {us : List Value} {xs : List Int}, IntsAre us xs → us.length = xs.length
  | _, _, .nil => rfl
  | _, _, .cons n t r => congrArg (· + 1) (ints_len r)
theorem ints_at : ∀ {us : List Value} {xs : List Int}, IntsAre us xs → ∀ (i : Nat) (v : Value), us[i]? = some v → ∃ t, v = .int (xs.getD i 0) t
  | _, _, .nil, i, v, h => by simp at h
  | _, _, .cons n t r, 0, v, h => ⟨t, by simpa using h.symm⟩
  | _, _, .cons n t r, i + 1, v, h => by
    obtain ⟨t', e⟩ := ints_at r i v (by simpa using h)
    exact ⟨t', by simpa using e⟩
def freshI (w : World) : Obj := { cls := .type "set", dict := none, data := .set #[] 0 (.fresh 0 0 (!w.params.followText "set-order")) }
section
variable {P : Program} {w : World} {A : Around} {E : Value → Shared → Prop} {s : Shared}
theorem code_set_led1 {v : Value} {Q₁ : Value → Shared → Prop}
    (h : Q₁ (.ref s.heap.objs.size) { s with heap := s.heap.push (freshI w) }) :
    codeAny (model P w) A (.call (.builtin "set.__new__") ⟨[.type "set", v], []⟩) (wants Q₁ E) s := by
  refine codeAny_of_tree ?_
  show wpAny _ A.in1 (do checkBuiltinCall "set.__new__" ⟨[.type "set", v], []⟩; again (.builtin "set.__new__" ⟨[.type "set", v], []⟩)) _ _ s
  refine wpAny_bind (wpAny_of_eq (F.newCall_set_1 v) (wpAny_pure ⟨plainId_quiet F.plain_set_new _, codeAny_builtin F.entry_set_new ?_⟩))
  rw [Around.under_plainId F.plain_set_new _]
  unfold Builtin.«set.__new__» Builtin.Frozenset.newClass
  have hsub := sub_set_self
  obtain ⟨hp, g, d, tk, os⟩ := s
  dsimp only
  wp_walk
  refine wpAny_askSetting (wpAny_pure ?_)
  dsimp only
  simp only [newObj]
  refine wpAny_bind (wpAny_alloc (wpAny_pure ?_))
  exact wpAny_pure h
end
section
variable {prog : Program} {w : World} {A : Around} {R : Result → Shared → Prop} {J : Addr} {fp wr : List Addr} {G : Array GenState → Array GenState → Prop} {n : Nat} {Pv : Nat → Value → Prop} {St : Nat → Shared → Prop}
theorem loopI (Wk : WalksS prog w A.in1 J fp wr G n Pv St) (D : Addr) (nD : D ∉ fp) (xs : List Int) (hlen : xs.length = n) (hv : ∀ i v, Pv i v → ∃ t, v = .int (xs.getD i 0) t) (hb : n + 1 < scanBound) :
    ∀ (r i : Nat) (s : Shared), n - i = r → i ≤ n → St i s → SetR w s.heap D (fun y => decide (y ∈ xs.take i)) (fewI xs i) →
      (∀ s', Moved (D :: wr) G s s' → SetR w s'.heap D (fun y => decide (y ∈ xs.take n)) (fewI xs n) → R (.ok (.ret .none)) s') →
      codeAny (model prog w) A (.builtin "set.update.loop" ⟨[.ref D, .ref J], []⟩) R s := by
  have nDw : D ∉ wr := fun q => nD (Wk.sub _ q)
  have more : ∀ b ∈ wr, b ∈ D :: wr := fun b q => List.mem_cons_of_mem _ q
  have stay : ∀ {s s' : Shared} {f : Int → Bool} {m : Nat}, Moved wr G s s' → SetR w s.heap D f m → SetR w s'.heap D f m := fun mv z => z.at fun o g1 => mv.heap D _ nDw g1
  intro r
  induction r with
  | zero =>
    intro i s e1 e2 st hD fin
    obtain rfl : i = n := by omega
    refine codeAny_builtin PyProof.Rows.F.entry_set_update_loop (by
      rw [Around.under_plainId PyProof.Rows.F.plain_set_update_loop _]
      show wpAny _ A.in1 (pyNext (.ref J) >>= _) _ _ s
      exact wpAny_bind (Wk.done s _ _ st fun s' mv => wpAny_pure (fin s' (mv.mono more) (stay mv hD))))
  | succ r ih =>
    intro i s e1 e2 st hD fin
    have lt : i < n := by omega
    refine codeAny_builtin PyProof.Rows.F.entry_set_update_loop (by
      rw [Around.under_plainId PyProof.Rows.F.plain_set_update_loop _]
      show wpAny _ A.in1 (pyNext (.ref J) >>= _) _ _ s
      refine wpAny_bind (Wk.item i s _ _ lt st fun v s' pv st' mv => ?_)
      obtain ⟨t, rfl⟩ := hv i v pv
      have hD1 := stay mv hD
      show wpAny _ A.in1 (holding [Value.int (xs.getD i 0) t] (setAdd D (.int (xs.getD i 0) t)) >>= _) _ _ s'
      refine wpAny_bind (wpAny_holding (by
        unfold setAdd
        refine wpAny_holding (wpAny_bind ((PySem.intKind prog w).pyHash (k := xs.getD i 0) (intKind_is _ _ _ _) ?_))
        have room : fewI xs i + 1 < scanBound := by
          have z := fewI_le xs i
          omega
        refine setR_add_hashed (s := { s' with toks := s'.toks + 1 }) hD1 room fun g sb hD2 => ?_
        have hD3 : SetR w g D (fun y => decide (y ∈ xs.take (i + 1))) (fewI xs (i + 1)) := by
          have e : fewI xs (i + 1) = (if (fun y => decide (y ∈ xs.take i)) (xs.getD i 0) = true then fewI xs i else fewI xs i + 1) := by
            show (if xs.getD i 0 ∈ xs.take i then _ else _) = _
            by_cases y : xs.getD i 0 ∈ xs.take i
            · rw [if_pos y, if_pos (decide_eq_true y)]
            · rw [if_neg y, if_neg (by simpa using y)]
          rw [e]
          exact hD2.congr fun y => (memI_more (by omega) y).symm
        refine wpAny_pure ⟨plainId_quiet PyProof.Rows.F.plain_set_update_loop _, ih (i + 1) _ (by omega) lt (Wk.frame _ s' _ _ st' (Nat.le_succ _) fun b m o e => ?_) hD3 fun s2 mv2 hD4 => ?_⟩
        · rw [sb.2 b (fun z : b = D => nD (z ▸ m))]
          exact e
        · refine fin s2 (Moved.trans Wk.gtrans ((mv.mono more).then_heap (Nat.le_succ _) fun b o m e => ?_) mv2) hD4
          rw [sb.2 b (fun z : b = D => m (z ▸ List.mem_cons_self))]
          exact e)))
end
section
variable {prog : Program} {w : World} {A : Around} {E : Value → Shared → Prop} {s : Shared}
/-- set(a list of ints) -/
theorem call_setI {l : Addr} {its : Array Value} {xs : List Int} {Q : Value → Shared → Prop} (hh : A.handled = none) (hl : s.heap.IsList l its) (hi : IntsAre its.toList xs) (hb : its.size + 1 < scanBound)
    (fin : ∀ (g : Heap) (tk : Nat), SetR w g s.heap.objs.size (fun y => decide (y ∈ xs.take its.size)) (fewI xs its.size) → (∀ b o, b < s.heap.objs.size → s.heap.get? b = some o → g.get? b = some o) → Q (.ref s.heap.objs.size) { s with heap := g, toks := tk }) :
    wpAny (model prog w) A (call (.type "set") [.ref l]) Q E s := by
  obtain ⟨mc, mt, k1⟩ := PySem.F.called_set.mro
  have k2 := PySem.F.called_set.made
  have k3 := PySem.F.called_set.sub
  refine wpAny_call (codeAny_of_tree (by
    show wpAny _ _ (callAny (.type "set") _) _ _ _
    refine wpAny_pure ⟨Code.quiet_builtin _ (by decide +kernel), codeAny_builtin PySem.F.entry_type_call (by
      rw [Around.under_plain (weight_type_call_type "set" [.ref l] []) rfl]
      have k4 := PySem.F.called_set.notType
      have k5 := PySem.F.called_set.canCreate
      have k6 := PySem.F.typeCall_set_1 (.ref l)
      repeat any_goals first | assumption | wp_step
      refine codeAny_mono (code_set_led1 (v := .ref l) (E := E) (Q₁ := fun v s1 => v = .ref s.heap.objs.size ∧ s1 = { s with heap := s.heap.push (freshI w) }) ⟨rfl, rfl⟩) fun r s1 q => ?_
      cases r with
      | error e => exact q
      | ok fl =>
        cases fl with
        | next => exact q.elim
        | brk => exact q.elim
        | cont => exact q.elim
        | ret v =>
          obtain ⟨rfl, rfl⟩ := q
          have dS : (s.heap.push (freshI w)).get? s.heap.objs.size = some (freshI w) := Heap.get?_push_size _ rfl
          have tS : Shared.TypeIs { s with heap := s.heap.push (freshI w) } (.ref s.heap.objs.size) "set" := ⟨_, dS, rfl⟩
          have k7 := PySem.F.called_set.init.lookup
          have k8 := PySem.F.called_set.init.bind (.ref s.heap.objs.size)
          repeat any_goals first | assumption | wp_step
          refine codeAny_mono (codeAny_call_builtin (R := wants (fun v s2 => v = .none ∧ ∃ g tk, s2 = { s with heap := g, toks := tk } ∧ SetR w g s.heap.objs.size (fun y => decide (y ∈ xs.take its.size)) (fewI xs its.size) ∧
              ∀ b o, b < s.heap.objs.size → s.heap.get? b = some o → g.get? b = some o) E) PySem.F.called_set.init.plain PySem.F.entry_set_init (check_set_init_1 tS ?_)) fun r2 s2 q2 => ?_
          · obtain ⟨⟨oc, od, dt, sl⟩, ol, cl, nn, dl⟩ := hl
            simp only at cl dl
            subst cl dl
            have ol2 : (s.heap.push (freshI w)).get? l = some { cls := .type "list", dict := od, data := .seq its nn, slots := sl } := Heap.get?_push_of_some _ ol
            have m1 := PySem.F.sub_list_set
            have m2 := PySem.F.sub_list_frozenset
            have m3 : (Value.type "list" == Value.type "dict") = false := by decide
            have ll : (s.heap.push (freshI w)).IsList l its := ⟨_, ol2, rfl, nn, rfl⟩
            unfold Builtin.«set.__init__» noKeywords Builtin.Frozenset.updateFrom
            generalize hPI : pyIter = PI
            wp_walk
            subst hPI
            have ls : l < s.heap.objs.size := Heap.lt_size ol
            have sz : (s.heap.push (freshI w)).objs.size = s.heap.objs.size + 1 := Heap.size_push ..
            have h3 : A.in1.in1.in1.handled = none := by simp [hh]
            have nI : l ≠ (s.heap.push (freshI w)).objs.size := by rw [sz]; exact Nat.ne_of_lt (Nat.lt_succ_of_lt ls)
            have nS : s.heap.objs.size ∉ [(s.heap.push (freshI w)).objs.size, l] := fun m => by
              rcases List.mem_cons.mp m with z | z
              · rw [sz] at z
                exact absurd z (Nat.ne_of_lt (Nat.lt_succ_self _))
              · exact absurd (List.mem_singleton.mp z) (Nat.ne_of_gt ls)
            have ln : xs.length = its.size := by rw [← ints_len hi, Array.length_toList]
            refine wpAny_pyIter_list ll (wpAny_bind (wpAny_runValue (loopI ((Walks.list h3 _ l nI its).toS) s.heap.objs.size nS xs ln (fun i v e => ints_at hi i v (by rw [Array.getElem?_toList]; exact e)) hb (its.size - 0) 0 _ (by omega) (Nat.zero_le _)
              ⟨⟨_, Heap.get?_push_size _ rfl, rfl, rfl⟩, ll.push _⟩ ?_ ?_)))
            · exact ((setR_fresh (h := s.heap) w).at fun o e => Heap.get?_push_of_some _ e).congr fun k => by simp
            · rintro ⟨g, gn, dr, tk, os⟩ mv hD
              obtain rfl : gn = s.gens := mv.gens
              obtain rfl : dr = s.drawn := mv.drawn
              obtain rfl : os = s.os := mv.os
              show wpAny _ _ _ _ _ _
              refine wpAny_pure (by
                show wpAny _ _ (ret Value.none) _ _ _
                refine wpAny_pure ⟨rfl, g, tk, rfl, hD, fun b o lb e => mv.heap b o (fun m => ?_) (Heap.get?_push_of_some _ (Heap.get?_push_of_some _ e))⟩
                rcases List.mem_cons.mp m with z | z
                · exact absurd z (Nat.ne_of_lt lb)
                · have y := List.mem_singleton.mp z
                  rw [sz] at y
                  exact absurd y (Nat.ne_of_lt (Nat.lt_succ_of_lt lb)))
          · cases r2 with
            | error e => exact q2
            | ok f2 =>
              cases f2 with
              | next => exact q2.elim
              | brk => exact q2.elim
              | cont => exact q2.elim
              | ret v =>
                obtain ⟨rfl, g, tk, rfl, hD, kp⟩ := q2
                repeat any_goals first | assumption | wp_step
                exact fin g _ hD kp)⟩))
end
end OB
namespace OB
open PySem PySem.Spec PyProof.Rows L2
def rSetI (w : World) (K : PySem.W.Frag) : List V → Hp → VK → Prop := fun xs H Q => ∃ (l : Addr) (ns : List Int), xs = [.ref l] ∧ SqL K H l (ns.map V.int) ∧ ns.length + 1 < 4096 ∧ ∀ p n, H p = none → n ≤ ns.length → Q (.ref p) (upd H p (SetO w p (fun y => decide (y ∈ ns)) n))
theorem cr_setI {X : Cx} (hc : X.calm = true) : CallR X (.type "set") (rSetI X.w X.K) := by
  intro pins s σ H vs us Q I r h
  obtain ⟨l, ns, rfl, hs, hb, q⟩ := h
  rw [Vals.ref1 r]
  obtain ⟨its, rv, pl, hz⟩ := I.list hs
  have sz : its.toArray.size = ns.length := by rw [List.size_toArray, ← rv.length, List.length_map]
  refine call_setI (I.ok.hd hc) pl.isList (by simpa using rv.ints) (by rw [sz]; unfold scanBound; omega) fun g tk hS hk => ?_
  rw [sz, List.take_length] at hS
  have J := I.laid (a := s.heap.objs.size) (o := SetO X.w s.heap.objs.size (fun y => decide (y ∈ ns)) (fewI ns ns.length)) (h' := g) (t' := tk) (fun b o e => hk b o (Heap.lt_size e) e) (Nat.le_refl _) (setO_new hS)
  exact ⟨.ref _, _, J, rfl, q _ _ (I.hok.fresh (Nat.le_refl _)) (fewI_le ns _)⟩
theorem sorted_setI {P : Program} {w : World} {A : Around} {E : Value → Shared → Prop} {s : Shared} {a : Addr} {S : Int → Bool} {n : Nat} {Q : Value → Shared → Prop} (R : SetR w s.heap a S n) (hh : A.handled = none) (hz0 : n ≤ sizeLine)
    (hQ : ∀ s' p (out : Array Value) (c : Nat) (ns : List Int), (∀ b o, s.heap.get? b = some o → s'.heap.get? b = some o) → s'.gens = s.gens → s'.os = s.os → s.heap.objs.size ≤ p →
      s'.heap.get? p = some (seqObj "list" out c) → IntsAre out.toList ns → ns.Pairwise (· < ·) → (∀ k, k ∈ ns ↔ S k = true) → ns.length = n → Q (.ref p) s') :
    wpAny (model P w) A (call (.builtin "sorted") [.ref a]) Q E s := by
  obtain ⟨o, es, ep, t, ho, hex, hd, g, nd, hm, hb, hf, hn, hr, hl⟩ := R
  refine Calls.call_function_entry kind_sorted plain_sorted entry_sorted (args_sorted1 _) ?_
  unfold Builtin.«sorted»
  refine wpAny_bind (m := checkCount "sorted" 1 1 _) (wpAny_pure ?_)
  refine wpAny_bind (collect_set (A := A.in1) hh ⟨o, ho, hex.1, hd⟩ hf hb hr hl fun s1 vs k1 hz g1 o1 pm => ?_)
  have hvl : vs.length = n := by rw [pm.length_eq, List.length_map, Array.length_toList]; exact hn
  have hI : IntsAre vs (vs.map Builtin.Re.reRawOf) := ints_of vs fun v hv => by
    obtain ⟨e, he, q⟩ := List.mem_map.mp (pm.mem_iff.mp hv)
    obtain ⟨k, tk, h1, _⟩ := g e he
    exact ⟨k, tk, by rw [← q]; exact h1⟩
  have pk : (vs.map Builtin.Re.reRawOf).Perm (es.toList.map keyOf) := by
    have q := pm.map Builtin.Re.reRawOf
    rw [List.map_map] at q
    exact q
  refine wpAny_bind (wpAny_newList ?_ (by rw [hvl]; exact hz0))
  have hoL : (s1.heap.push (seqObj "list" vs.toArray 0)).get? s1.heap.objs.size = some (seqObj "list" vs.toArray 0) := Heap.get?_push_size _ rfl
  refine wpAny_bind (wpAny_holding (wpAny_call_entry slot_list_sort ⟨_, hoL, rfl⟩ entry_list_sort (SrtO.list_sort_ord SrtO.swo_int hoL (by rw [hvl]; exact hz0) (fun h2 => SrtO.ints_sortable hI h2) fun out h1 h2 => ⟨_, rfl, ?_⟩) (args_list_sort _)))
  obtain ⟨c1, c2, c3⟩ := SrtO.ints_out hI h1 h2
  obtain ⟨c, hc⟩ := sortedHeap_at (vs := vs) (out := out.toArray) hoL
  have pn : (out.map SrtO.iv).Perm (es.toList.map keyOf) := c2.trans pk
  refine wpAny_pure ⟨_, rfl, hQ _ s1.heap.objs.size out.toArray c (out.map SrtO.iv) (fun b u e => ?_) g1 o1 hz hc (by simpa using c1) (lt_of_le_nodup _ c3 (pn.nodup_iff.mpr nd)) (fun k => by rw [pn.mem_iff, ← hm k]) ?_⟩
  · have q := k1 b u e
    have hlt := Heap.lt_size q
    show (sortedHeap (s1.heap.push (seqObj "list" vs.toArray 0)) s1.heap.objs.size vs out.toArray).get? b = some u
    rw [sortedHeap_old (Nat.ne_of_lt hlt) (by rw [size_push']; exact Nat.lt_succ_of_lt hlt)]
    exact Heap.get?_push_of_some _ q
  · rw [pn.length_eq, List.length_map, Array.length_toList]; exact hn
def rSortedSetI (w : World) : List V → Hp → VK → Prop := fun vs H Q => ∃ (a : Addr) (S : Int → Bool) (n : Nat), vs = [V.ref a] ∧ H a = some (SetO w a S n) ∧ n ≤ 10000 ∧
  ∀ (ns : List Int) (p : Addr), ns.Pairwise (· < ·) → (∀ k : Int, k ∈ ns ↔ S k = true) → ns.length = n → H p = none → Q (.ref p) (upd H p (.lst (ns.map V.int)))
theorem cr_sortedSetI {X : Cx} (hc : X.calm = true) : CallR X (.builtin "sorted") (rSortedSetI X.w) := by
  intro pins s σ H vs us Q I r h
  obtain ⟨a, S, n, rfl, ha, hn10, q⟩ := h
  have R := setO_get I ha
  rw [Vals.ref1 r]
  refine sorted_setI R (I.ok.hd hc) (by rw [sizeLine_eq]; omega) fun s' p out c ns k g o hp hg hi hs hm hl => ?_
  have hlen : (ns.map V.int).length ≤ sizeLine := by rw [List.length_map, hl, sizeLine_eq]; omega
  have hn : H p = none := I.hok.fresh hp
  have J : Inv X pins σ (upd H p (.lst (ns.map V.int))) { s with heap := s'.heap, gens := s'.gens, drawn := s'.drawn, toks := s'.toks } :=
    I.call (ch := []) (Un.laid k hp hn) (I.hok.laid k hp ⟨hlen, out.toList, c, vals_of_ints hi, hg⟩) (by rw [g]; exact I.bare) (fun _ z => nomatch z)
  have e : s' = { s with heap := s'.heap, gens := s'.gens, drawn := s'.drawn, toks := s'.toks } := by
    cases s'
    cases s
    cases o
    rfl
  rw [e]
  exact ⟨.ref p, _, J, rfl, q ns p hs hm hl hn⟩
/-! ### data of whole numbers -/
theorem depth_ints : ∀ (cs : List Int), PyData.depthAll (cs.map PyData.int) = 0
  | [] => rfl
  | c :: cs => by
    show max 0 (PyData.depthAll (cs.map PyData.int)) = 0
    rw [depth_ints cs]
    rfl
theorem lay_ints : ∀ (cs : List Int), PyData.canLayAll0 (cs.map PyData.int) = true
  | [] => rfl
  | c :: cs => by
    show (true && PyData.canLayAll0 (cs.map PyData.int)) = true
    rw [lay_ints cs]
    rfl
theorem shaped_ints (cs : List Int) : SeqAt.shaped (.list (cs.map PyData.int)) = true := by
  show (PyData.canLayAll0 (cs.map PyData.int) && decide (PyData.depthAll (cs.map PyData.int) + 1 ≤ 64)) = true
  rw [lay_ints, depth_ints]
  rfl
theorem dp_ints {K : PySem.W.Frag} {H : Hp} : ∀ (cs : List Int), DpAll K H (cs.map V.int) (cs.map PyData.int)
  | [] => .nil
  | c :: cs => .cons (.int c) (dp_ints cs)
theorem eqv_nilI (cs : List Int) : PyData.eqv (.list (cs.map PyData.int)) (.list []) = cs.isEmpty := by
  cases cs <;> rfl
def prD (p : Int × Int) : PyData := .tuple [.int p.1, .int p.2]
theorem dpR {K : PySem.W.Frag} {H : Hp} : ∀ {ts : List V} {r : List (Int × Int)}, Paired (Sp2 H) ts r → DpAll K H ts (r.map prD)
  | _, _, .nil => .nil
  | _, _, .cons f p => by
    obtain ⟨a, rfl, h⟩ := f
    exact .cons (.tup (SqT.of h) (.cons (.int _) (.cons (.int _) .nil))) (dpR p)
theorem layR : ∀ r : List (Int × Int), PyData.canLayAll0 (r.map prD) = true ∧ PyData.depthAll (r.map prD) ≤ 1
  | [] => ⟨rfl, Nat.zero_le _⟩
  | p :: r => by
    obtain ⟨i1, i2⟩ := layR r
    refine ⟨?_, ?_⟩
    · show (true && PyData.canLayAll0 (r.map prD)) = true
      rw [i1]
      rfl
    · show max (max 0 (max 0 0) + 1) (PyData.depthAll (r.map prD)) ≤ 1
      exact Nat.max_le.mpr ⟨by decide, i2⟩
theorem shapedR (r : List (Int × Int)) : SeqAt.shaped (.list (r.map prD)) = true := by
  obtain ⟨h1, h2⟩ := layR r
  show (PyData.canLayAll0 (r.map prD) && decide (PyData.depthAll (r.map prD) + 1 ≤ 64)) = true
  rw [h1, decide_eq_true (by omega)]
  rfl
theorem eqv_nilR : ∀ r : List (Int × Int), PyData.eqv (.list (r.map prD)) (.list []) = r.isEmpty
  | [] => rfl
  | _ :: _ => rfl
end OB
namespace OB
open PySem PySem.Spec PyProof.Rows L2
abbrev sLOdd : Stmt := top 42
def spOdd (K : PySem.W.Frag) : Sp := fun vs H Q _ => ∃ (p : Addr) (n : Nat), vs = [.ref p] ∧ Src n H p ∧ n < 1000000000 ∧ ∀ H' v, ButS p H H' → Src (n + 1) H' p → Thing K H' v none → (∀ b, v = .ref b → H b = none) → Q v H'
theorem thing_tup {K : PySem.W.Frag} {H : Hp} {a : Addr} {xs : List V} (h : H a = some (.tup xs)) (ha : ∀ x ∈ xs, ∃ k, Any K H x k) (l : xs.length < 1000) (e : stayOf xs = none) : Thing K H (.ref a) none := e ▸ Thing.seq (tp := true) h ha l
theorem any_cons {P : V → Prop} {x : V} {xs : List V} (h : P x) (r : ∀ y ∈ xs, P y) : ∀ y ∈ x :: xs, P y := fun y m => by
  rcases List.mem_cons.mp m with e | m
  · rw [e]; exact h
  · exact r y m
theorem any_nil {P : V → Prop} : ∀ y ∈ ([] : List V), P y := fun _ m => by cases m
section
variable {P : Program} {w : World} {K : PySem.W.Frag} {mg : Str → Option Value} {base : Heap}
theorem scOdd : FnScope ["stream", "odds"] ["stream"] (defScope sLOdd) := ⟨rfl, rfl, rfl, by decide +kernel, rfl, by decide +kernel, by decide +kernel⟩
theorem ok_odd {f fP : Addr} {fd fdP : FuncData} (F : Fun K "_law_odd_stay" "_law_odd_stay" sLOdd f fd) (GP : FnOk P w K mg base CX0 2 fP fdP ["stream", "things"] (spPick K)) (gP : mg "_law_pick" = some (.ref fP)) (kP : PySem.W.keepIn K (.ref fP) = true) (bP : Binds K fdP ["stream", "things"] []) : FnOk P w K mg base CX0 3 f fd ["stream"] (spOdd K) := by
  refine F.ok scOdd (fun vs H Q E h => ?_) (fun cdv A outer s H vs Q E hr h => ?_)
  · obtain ⟨p, n, rfl, _⟩ := h
    rfl
  · obtain ⟨p, n, rfl, S, hn, q⟩ := h
    have nd := scOdd.nd
    refine ⟨_, pss_cons (ps_set (i := 1) nd rfl (Or.inl rfl) (pe_lst (pa_cons pe_non (pa_cons pe_int (pa_cons pe_str (pa_cons (pe_tup pa_nil) (pa_cons (pe_tup (pa_cons pe_int (pa_cons pe_int pa_nil))) (pa_cons (pe_tup (pa_cons pe_int (pa_cons pe_int (pa_cons pe_int (pa_cons pe_int pa_nil))))) (pa_cons (pe_tup (pa_cons pe_int (pa_cons pe_int (pa_cons pe_int pa_nil)))) (pa_cons (pe_tup (pa_cons pe_bl (pa_cons pe_int (pa_cons pe_int pa_nil)))) (pa_cons (pe_tup (pa_cons pe_int (pa_cons pe_int (pa_cons (pe_un un_neg pe_int) pa_nil)))) (pa_cons (pe_tup (pa_cons pe_int (pa_cons pe_str (pa_cons pe_int pa_nil)))) (pa_cons pe_dnewK (pa_cons (pe_tup (pa_cons (pe_un un_neg pe_int) (pa_cons pe_int (pa_cons pe_int pa_nil)))) pa_nil))))))))))))))
      (pss_one (ps_ret (pe_call GP hr (by rfl) gP kP bP .nil pass0 (pa_cons (pv 0) (pa_cons (pv 1) pa_nil))))), ?_⟩
    have e0 := Same.refl H
    refine ⟨Nat.zero_le _, fun a1 n1 => ?_⟩
    have f1 : Same H (upd H a1 (.tup [])) := Same.new n1
    have g1 : (upd H a1 (.tup [])) a1 = some (.tup []) := upd_same
    have u1 : H a1 = none := e0.free n1
    have e1 : Same H (upd H a1 (.tup [])) := e0.trans f1
    generalize upd H a1 (.tup []) = J1 at f1 g1 e1
    refine ⟨by show 2 ≤ sizeLine; decide, fun a2 n2 => ?_⟩
    have f2 : Same J1 (upd J1 a2 (.tup [.int 1, .int 2])) := Same.new n2
    have g2 : (upd J1 a2 (.tup [.int 1, .int 2])) a2 = some (.tup [.int 1, .int 2]) := upd_same
    have u2 : H a2 = none := e1.free n2
    have e2 : Same H (upd J1 a2 (.tup [.int 1, .int 2])) := e1.trans f2
    generalize upd J1 a2 (.tup [.int 1, .int 2]) = J2 at f2 g2 e2
    refine ⟨by show 4 ≤ sizeLine; decide, fun a3 n3 => ?_⟩
    have f3 : Same J2 (upd J2 a3 (.tup [.int 1, .int 2, .int 3, .int 4])) := Same.new n3
    have g3 : (upd J2 a3 (.tup [.int 1, .int 2, .int 3, .int 4])) a3 = some (.tup [.int 1, .int 2, .int 3, .int 4]) := upd_same
    have u3 : H a3 = none := e2.free n3
    have e3 : Same H (upd J2 a3 (.tup [.int 1, .int 2, .int 3, .int 4])) := e2.trans f3
    generalize upd J2 a3 (.tup [.int 1, .int 2, .int 3, .int 4]) = J3 at f3 g3 e3
    refine ⟨by show 3 ≤ sizeLine; decide, fun a4 n4 => ?_⟩
    have f4 : Same J3 (upd J3 a4 (.tup [.int 3, .int 2, .int 1])) := Same.new n4
    have g4 : (upd J3 a4 (.tup [.int 3, .int 2, .int 1])) a4 = some (.tup [.int 3, .int 2, .int 1]) := upd_same
    have u4 : H a4 = none := e3.free n4
    have e4 : Same H (upd J3 a4 (.tup [.int 3, .int 2, .int 1])) := e3.trans f4
    generalize upd J3 a4 (.tup [.int 3, .int 2, .int 1]) = J4 at f4 g4 e4
    refine ⟨by show 3 ≤ sizeLine; decide, fun a5 n5 => ?_⟩
    have f5 : Same J4 (upd J4 a5 (.tup [.bl true, .int 2, .int 3])) := Same.new n5
    have g5 : (upd J4 a5 (.tup [.bl true, .int 2, .int 3])) a5 = some (.tup [.bl true, .int 2, .int 3]) := upd_same
    have u5 : H a5 = none := e4.free n5
    have e5 : Same H (upd J4 a5 (.tup [.bl true, .int 2, .int 3])) := e4.trans f5
    generalize upd J4 a5 (.tup [.bl true, .int 2, .int 3]) = J5 at f5 g5 e5
    refine ⟨_, rfl, by show 3 ≤ sizeLine; decide, fun a6 n6 => ?_⟩
    have f6 : Same J5 (upd J5 a6 (.tup [.int 1, .int 2, .int (-1)])) := Same.new n6
    have g6 : (upd J5 a6 (.tup [.int 1, .int 2, .int (-1)])) a6 = some (.tup [.int 1, .int 2, .int (-1)]) := upd_same
    have u6 : H a6 = none := e5.free n6
    have e6 : Same H (upd J5 a6 (.tup [.int 1, .int 2, .int (-1)])) := e5.trans f6
    generalize upd J5 a6 (.tup [.int 1, .int 2, .int (-1)]) = J6 at f6 g6 e6
    refine ⟨by show 3 ≤ sizeLine; decide, fun a7 n7 => ?_⟩
    have f7 : Same J6 (upd J6 a7 (.tup [.int 1, .str "2", .int 3])) := Same.new n7
    have g7 : (upd J6 a7 (.tup [.int 1, .str "2", .int 3])) a7 = some (.tup [.int 1, .str "2", .int 3]) := upd_same
    have u7 : H a7 = none := e6.free n7
    have e7 : Same H (upd J6 a7 (.tup [.int 1, .str "2", .int 3])) := e6.trans f7
    generalize upd J6 a7 (.tup [.int 1, .str "2", .int 3]) = J7 at f7 g7 e7
    refine fun a8 n8 => ?_
    have f8 : Same J7 (upd J7 a8 (.dK [])) := Same.new n8
    have g8 : (upd J7 a8 (.dK [])) a8 = some (.dK []) := upd_same
    have u8 : H a8 = none := e7.free n8
    have e8 : Same H (upd J7 a8 (.dK [])) := e7.trans f8
    generalize upd J7 a8 (.dK []) = J8 at f8 g8 e8
    refine ⟨_, rfl, by show 3 ≤ sizeLine; decide, fun a9 n9 => ?_⟩
    have f9 : Same J8 (upd J8 a9 (.tup [.int (-1), .int 2, .int 3])) := Same.new n9
    have g9 : (upd J8 a9 (.tup [.int (-1), .int 2, .int 3])) a9 = some (.tup [.int (-1), .int 2, .int 3]) := upd_same
    have u9 : H a9 = none := e8.free n9
    have e9 : Same H (upd J8 a9 (.tup [.int (-1), .int 2, .int 3])) := e8.trans f9
    generalize upd J8 a9 (.tup [.int (-1), .int 2, .int 3]) = J9 at f9 g9 e9
    refine ⟨by show 12 ≤ sizeLine; decide, fun od nod => ?_⟩
    have fo : Same J9 (upd J9 od (.lst [.non, .int 5, .str "abc", .ref a1, .ref a2, .ref a3, .ref a4, .ref a5, .ref a6, .ref a7, .ref a8, .ref a9])) := Same.new nod
    have eo := e9.trans fo
    have all : ∀ J, ButS p (upd J9 od (.lst [.non, .int 5, .str "abc", .ref a1, .ref a2, .ref a3, .ref a4, .ref a5, .ref a6, .ref a7, .ref a8, .ref a9])) J → ∀ x ∈ ([.non, .int 5, .str "abc", .ref a1, .ref a2, .ref a3, .ref a4, .ref a5, .ref a6, .ref a7, .ref a8, .ref a9] : List V), Thing K J x none ∧ ∀ b, x = .ref b → H b = none := fun J BJ =>
      (any_cons (⟨.no (.non) rfl, fun b eb => by cases eb⟩)
      (any_cons (⟨.no (.int _) rfl, fun b eb => by cases eb⟩)
      (any_cons (⟨.no (.str (by decide)) rfl, fun b eb => by cases eb⟩)
      (any_cons (⟨thing_tup (BJ _ _ (S.ne u1) (fo _ _ (f9 _ _ (f8 _ _ (f7 _ _ (f6 _ _ (f5 _ _ (f4 _ _ (f3 _ _ (f2 _ _ g1)))))))))) any_nil (by decide) (by first | rfl | decide), fun b eb => by cases eb; exact u1⟩)
      (any_cons (⟨thing_tup (BJ _ _ (S.ne u2) (fo _ _ (f9 _ _ (f8 _ _ (f7 _ _ (f6 _ _ (f5 _ _ (f4 _ _ (f3 _ _ g2))))))))) (any_cons ⟨_, .int _⟩ (any_cons ⟨_, .int _⟩ any_nil)) (by decide) (by first | rfl | decide), fun b eb => by cases eb; exact u2⟩)
      (any_cons (⟨thing_tup (BJ _ _ (S.ne u3) (fo _ _ (f9 _ _ (f8 _ _ (f7 _ _ (f6 _ _ (f5 _ _ (f4 _ _ g3)))))))) (any_cons ⟨_, .int _⟩ (any_cons ⟨_, .int _⟩ (any_cons ⟨_, .int _⟩ (any_cons ⟨_, .int _⟩ any_nil)))) (by decide) (by first | rfl | decide), fun b eb => by cases eb; exact u3⟩)
      (any_cons (⟨thing_tup (BJ _ _ (S.ne u4) (fo _ _ (f9 _ _ (f8 _ _ (f7 _ _ (f6 _ _ (f5 _ _ g4))))))) (any_cons ⟨_, .int _⟩ (any_cons ⟨_, .int _⟩ (any_cons ⟨_, .int _⟩ any_nil))) (by decide) (by first | rfl | decide), fun b eb => by cases eb; exact u4⟩)
      (any_cons (⟨thing_tup (BJ _ _ (S.ne u5) (fo _ _ (f9 _ _ (f8 _ _ (f7 _ _ (f6 _ _ g5)))))) (any_cons ⟨_, .bl _⟩ (any_cons ⟨_, .int _⟩ (any_cons ⟨_, .int _⟩ any_nil))) (by decide) (by first | rfl | decide), fun b eb => by cases eb; exact u5⟩)
      (any_cons (⟨thing_tup (BJ _ _ (S.ne u6) (fo _ _ (f9 _ _ (f8 _ _ (f7 _ _ g6))))) (any_cons ⟨_, .int _⟩ (any_cons ⟨_, .int _⟩ (any_cons ⟨_, .int _⟩ any_nil))) (by decide) (by first | rfl | decide), fun b eb => by cases eb; exact u6⟩)
      (any_cons (⟨thing_tup (BJ _ _ (S.ne u7) (fo _ _ (f9 _ _ (f8 _ _ g7)))) (any_cons ⟨_, .int _⟩ (any_cons ⟨_, .str (by decide)⟩ (any_cons ⟨_, .int _⟩ any_nil))) (by decide) (by first | rfl | decide), fun b eb => by cases eb; exact u7⟩)
      (any_cons (⟨.no (.dct (BJ _ _ (S.ne u8) (fo _ _ (f9 _ _ g8)))) rfl, fun b eb => by cases eb; exact u8⟩)
      (any_cons (⟨thing_tup (BJ _ _ (S.ne u9) (fo _ _ g9)) (any_cons ⟨_, .int _⟩ (any_cons ⟨_, .int _⟩ (any_cons ⟨_, .int _⟩ any_nil))) (by decide) (by first | rfl | decide), fun b eb => by cases eb; exact u9⟩)
      any_nil))))))))))))
    refine ⟨_, rfl, _, rfl, p, od, _, n, rfl, S.same eo, hn, SqL.of upd_same, (S.same e9).ne nod, Nat.succ_pos _, by show 12 < 1000000; decide, fun H2 j x B S2 hx => ?_⟩
    obtain ⟨t1, t2⟩ := all H2 B x (List.mem_of_getElem? hx)
    refine q H2 x (fun b o nb e => B b o nb (eo b o e)) S2 t1 t2
end
end OB
namespace OB
open PySem PySem.Spec PyProof.Rows L2
/-! ### try .. except X as n .. with any number of clauses: one of them always -/
def unS (i : Nat) (D : Ends) : Ends := { nx := fun σ' G => D.nx (σ'.set i none) G, rt := D.rt, bk := fun σ' G => D.bk (σ'.set i none) G, ct := fun σ' G => D.ct (σ'.set i none) G }
def wAs (K : PySem.W.Frag) (i : Nat) (D : Ends) : List (Value × (Addr → Value → Option Addr → TS)) → WX
  | [] => fun _ _ _ _ => False
  | (c, ts) :: r => fun cls d σ H => (PySem.W.exmOne K cls c = some true ∧ ∀ a, H a = none → i < σ.length → ts a cls d (unS i D) (σ.set i (some (.ref a))) H) ∨ (PySem.W.exmOne K cls c = some false ∧ wAs K i D r cls d σ H)
inductive HdsAs (X : Cx) (n : Str) : List ExceptHandler → List (Value × (Addr → Value → Option Addr → TS)) → Prop
  | nil : HdsAs X n [] []
  | cons {x : Str} {c : Value} {ts : Addr → Value → Option Addr → TS} {b₀ : Stmt} {suite : List Stmt} {np pos' : Pos} {hds : List ExceptHandler} {l : List (Value × (Addr → Value → Option Addr → TS))} (hc : Names X x c)
      (hsu : ∀ (a : Addr) (oe : Obj) (cls : Value) (d : Option Addr) (pn : List (Addr × Obj)), Zc cls d oe → (∃ vs, oe.data = .fields vs) → PSs (X.suite a ((a, oe) :: pn)) (b₀ :: suite) (ts a cls d)) (r : HdsAs X n hds l) :
      HdsAs X n (.ExceptHandler (some (.Name x np)) (some n) (b₀ :: suite) pos' :: hds) ((c, ts) :: l)
section
variable {X : Cx} {n : Str} {i : Nat} {body : List Stmt} {h₀ : ExceptHandler} {hds : List ExceptHandler} {l : List (Value × (Addr → Value → Option Addr → TS))} {pos : Pos} {tb : WX → TS}
theorem ps_try_asN (hst : X.stack = X.env :: X.outer) (hfr : X.env.frame = some X.env.locals) (nd : X.N.Nodup) (hi : X.N[i]? = some n) (hk : X.env.kindOf n = some .local)
    (hb : ∀ (W : WX) (pn : List (Addr × Obj)) (xe : Value → Shared → Prop), Takes (X.tr pn xe) W → PassesOwn (model X.prog X.w) X.A X.env xe → PSs (X.tr pn xe) body (tb W))
    (hh : HdsAs X n (h₀ :: hds) l) : PS X (.Try body (h₀ :: hds) [] [] pos) (fun D σ H => tb (wAs X.K i D l) D σ H) := by
  refine ⟨fun pins s σ H D I hq => ?_⟩
  have ok0 := I.ok
  have fr0 : X.A.frames = some (X.env :: X.outer) := ok0.frames.trans (congrArg some hst)
  have loc0 : Loc X.env.scope n := .inl hk
  refine wpAny_Try_except (wpAny_mono ((hb (wAs X.K i D l) (X.pn ++ pins) (fun e z1 => wpAny (model X.prog X.w) X.A (noteFrame e X.env) (fun _ z2 => wpAny (model X.prog X.w) X.A (setFlight e none) (fun _ z3 =>
    wpAny (model X.prog X.w) X.A (handleBy e X.env (h₀ :: hds)) (SP X pins D) X.xe z3) X.xe z2) X.xe z1) (fun u z xx => ?_) PassesOwn.looking).run [] s σ H D (I.toTry _) hq) (fun f z fin => ?_) (fun e z he => he))
  · obtain ⟨a, B, sI, pins2, σ2, G, cls, d, rfl, I2, nb, up, sky, na, os, ag, wish⟩ := xx
    have I3 : Inv X pins σ2 G sI := I2.ofTry ok0
    have sky2 : Sky B (X.env :: X.outer) a (Zc cls d) X.env.locals z.heap := hst ▸ sky
    show wpAny _ X.A (noteFrame (.ref a) X.env) _ _ z
    refine Sky.land Zc.steady fr0 hfr sky2 fun g fl upg => ?_
    have I4 : Inv X pins σ2 G { z with heap := g } := I3.landed nb fl.1 (up.trans upg) os ag
    obtain ⟨oe, vs, he, hz, hd⟩ := fl.there
    have noF : ∀ {h : Heap} {o : Obj} {ws : Array Value}, h.FunFrames B (X.env :: X.outer) → h.get? a = some o → o.data = .fields ws → a ∉ frs (X.env :: X.outer) := fun ff e1 dd hm => by
      obtain ⟨_, o2, e2, no⟩ := ff.mem hm
      rw [e1] at e2
      cases e2
      exact no _ dd
    have nF := noF fl.2.2.1 he hd
    have nLo : a ≠ X.env.locals := fun y => nF (List.mem_filterMap.mpr ⟨X.env, List.mem_cons_self, hfr.trans (congrArg some y.symm)⟩)
    have nFs : a ∉ X.fs := fun hm => by
      obtain ⟨ev, me, q⟩ := List.mem_filterMap.mp hm
      exact nF (List.mem_filterMap.mpr ⟨ev, List.mem_cons_of_mem _ me, q⟩)
    have IS := I4.suite he hd na nLo nFs
    have LT : PySem.W.Looks (model X.prog X.w) g (typeOf (.ref a)) cls := fun A0 Q0 E0 s0 kk q => wpAny_typeOf_ref (kk _ _ he) (hz.1.symm ▸ q)
    have test : ∀ {x : Str} {c : Value} {np : Pos}, Names X x c → ∀ {Q : Value → Shared → Prop} {E : Value → Shared → Prop}, Q c { z with heap := g } → wpAny (model X.prog X.w) (X.A.mark (some (.ref a))) (eval (.Name x np) X.env) Q E { z with heap := g } := fun {x c np} hc {Q E} q => by
      rcases hc with ⟨hg, hdb, hm | ⟨hm, hv, hnn⟩⟩
      · exact ld_glob (X := X.suite a ((a, oe) :: (X.pn ++ pins))) IS hg hm q hdb
      · exact ld_blt (X := X.suite a ((a, oe) :: (X.pn ++ pins))) IS hg hm hv q hnn hdb
    have go : ∀ {hds2 : List ExceptHandler} {l2 : List (Value × (Addr → Value → Option Addr → TS))}, HdsAs X n hds2 l2 → wAs X.K i D l2 cls d σ2 G →
        wpAny (model X.prog X.w) X.A (handleBy (.ref a) X.env hds2) (SP X pins D) X.xe { z with heap := g } := by
      intro hds2 l2 hk2
      induction hk2 with
      | nil => exact fun w => w.elim
      | @cons x c ts b₀ suite np pos2 hds3 l3 hc hsu r ih =>
        intro w
        rcases w with ⟨e1, hts⟩ | ⟨e1, w⟩
        all_goals
          have LM := PySem.W.exm_one (M := model X.prog X.w) I4.kIn LT e1
          refine wpAny_handleBy_cons (codeAny_handlers_test (test hc (LM.here ?_))) (fun q => by cases q)
        · have hts := hts a na (by rw [I3.len]; exact (List.getElem?_eq_some_iff.mp hi).1)
          refine codeAny_handlers_suite_as (HandSPX.lands_againZ fl fun k flk upk => ?_)
          have I5 : Inv X pins σ2 G { z with heap := k } := I3.landed nb flk.1 ((up.trans upg).trans upk) os ag
          obtain ⟨oe5, vs5, he5, hz5, hd5⟩ := flk.there
          have IS5 := I5.suite he5 hd5 na nLo nFs
          refine store_ok (X := X.suite a ((a, oe5) :: (X.pn ++ pins))) (v := .ref a) IS5 nd hi loc0 rfl (fun z5 Z5 => ?_) (.inr hk)
          have close_ : ∀ {σ6 : L2.St} {H6 : Hp} {z6 : Shared} {pz : Pos} {Q : Shared → Prop}, Inv (X.suite a ((a, oe5) :: (X.pn ++ pins))) [] σ6 H6 z6 → (∀ z7, Inv X pins (σ6.set i none) H6 z7 → Q z7) →
              wpAny (model X.prog X.w) X.A (do bindName X.env n .none; unbindBehindTheSuite X.env n pz) (fun _ z7 => Q z7) X.xe z6 := fun Z6 hq6 => gone_ok (Z6.unsuite ok0) nd hi hk hq6
          refine wpAny_mono ((hsu a oe5 cls d (X.pn ++ pins) hz5 ⟨_, hd5⟩).run [] z5 _ G _ Z5 hts) (fun f z6 hsp => ?_) (fun _ _ y => y.elim)
          cases f with
          | next =>
            obtain ⟨σ6, H6, Z6, q6⟩ := hsp
            exact close_ Z6 fun _ Z7 => ⟨_, _, Z7, q6⟩
          | brk =>
            obtain ⟨σ6, H6, Z6, q6⟩ := hsp
            exact close_ Z6 fun _ Z7 => ⟨_, _, Z7, q6⟩
          | cont =>
            obtain ⟨σ6, H6, Z6, q6⟩ := hsp
            exact close_ Z6 fun _ Z7 => ⟨_, _, Z7, q6⟩
          | ret u =>
            obtain ⟨v6, σ6, H6, Z6, r6, q6⟩ := hsp
            exact close_ Z6 fun _ Z7 => ⟨_, _, _, Z7, r6, q6⟩
        · show wpAny _ X.A (handleBy (.ref a) X.env hds3) _ _ _
          exact ih w
    exact go hh wish
  · cases f with
    | next =>
      obtain ⟨σ', H', J', q⟩ := fin
      exact wpAny_execs_nil ⟨σ', H', J'.ofTry ok0, q⟩
    | brk =>
      obtain ⟨σ', H', J', q⟩ := fin
      exact ⟨σ', H', J'.ofTry ok0, q⟩
    | cont =>
      obtain ⟨σ', H', J', q⟩ := fin
      exact ⟨σ', H', J'.ofTry ok0, q⟩
    | ret u =>
      obtain ⟨v, σ', H', J', r, q⟩ := fin
      exact ⟨v, σ', H', J'.ofTry ok0, r, q⟩
end
end OB
namespace OB
open PySem PySem.Spec PyProof.Rows L2 LamX
/-! ### what is told, or what is refused -/
abbrev sMet : Stmt := top 47
def told2 (Q : VK) (x : Str) : V → Hp → Prop := fun v G => 2 ≤ sizeLine ∧ ∀ T, G T = none → Q (.ref T) (upd G T (.lst [.str x, v]))
/-- the classes of the errors -/
structure Cls5 where
  S : Addr
  M : Addr
inductive Met5 (C : Cls5) : Addr → Str → Str → Prop where
  | s : Met5 C C.S "index" "stays"
  | m : Met5 C C.M "many" "many"
def EchM (C : Cls5) (Q : VK) : XK := fun cls d G => ∃ A f x, Met5 C A f x ∧ cls = .ref A ∧ ∃ dd v, d = some dd ∧ G dd = some (.xd [(f, v)]) ∧ told2 Q x v G
def TTMet (C : Cls5) : (XK → Hp → VK → Prop) → Hp → VK → Prop := fun tl H Q => tl (EchM C Q) H fun v G => told2 Q "told" v G
structure MetK (K : PySem.W.Frag) (mg : Str → Option Value) (C : Cls5) : Prop where
  gS : mg "BadStays" = some (.ref C.S)
  xS : XfC K C.S
  fS : PySem.W.findIn K (.ref C.S) "index" = some none
  gM : mg "BadMany" = some (.ref C.M)
  xM : XfC K C.M
  fM : PySem.W.findIn K (.ref C.M) "many" = some none
  eSS : PySem.W.exmOne K (.ref C.S) (.ref C.S) = some true
  eMS : PySem.W.exmOne K (.ref C.M) (.ref C.S) = some false
  eMM : PySem.W.exmOne K (.ref C.M) (.ref C.M) = some true
theorem scMet : FnScope ["ask", "e"] ["ask"] (defScope sMet) := ⟨rfl, rfl, rfl, by decide +kernel, rfl, by decide +kernel, by decide +kernel⟩
/-- an error that is told -/
theorem met_bad {C : Cls5} {A : Addr} {f x : Str} {Q : VK} {H : Hp} {v : V} (m : Met5 C A f x) (q : ∀ G T, Same H G → H T = none → G T = some (.lst [.str x, v]) → Q (.ref T) G) : Bad (EchM C Q) H A f v := fun H' d e n g =>
  ⟨A, f, x, m, rfl, d, v, rfl, g, by decide, fun T nT => q _ T (e.trans (Same.new nT)) (e.free nT) upd_same⟩
section
variable {X : Cx}
theorem met_gives {q : Str} {g : Addr} {cdg : Value} {C : Cls5} (M : MetK X.K X.mg C) : GivesTo X ["ask", "e"] "_law_met" (defScope sMet) g cdg (defBody sMet) "ask" q (TTMet C) := by
  intro f c' s H Q tl act hc h
  have nd := scMet.nd
  refine ⟨_, pss_one (ps_try_asN (n := "e") (i := 1) (X := (cxOf C8.CX0 X.prog X.w X.K X.mg X.base ["ask", "e"] "_law_met" (defScope sMet) g cdg X.A X.stack s H C8.E0).nox)
      (tb := fun W D σ G => ∃ Ech : XK, (∀ cls d σ' H', Ech cls d H' → W cls d σ' H') ∧ σ[0]? = some (some (.ref f)) ∧ G c' = some (CodeO c' q) ∧ tl Ech G fun v G2 => told2 D.rt "told" v G2)
      rfl rfl nd rfl rfl (fun W pn xe tk _ => ?_)
      (.cons ⟨by rfl, by decide, .inl M.gS⟩ (fun a oe cls d pn hz hf => pss_one (ps_ret (pe_lst (pa_cons pe_str (pa_cons (pe_xf M.xS M.fS hz hf (pv 1)) pa_nil)))))
      (.cons ⟨by rfl, by decide, .inl M.gM⟩ (fun a oe cls d pn hz hf => pss_one (ps_ret (pe_lst (pa_cons pe_str (pa_cons (pe_xf M.xM M.fM hz hf (pv 1)) pa_nil)))))
      .nil))), ?_⟩
  · refine ⟨fun pins s' σ H' D I h' => ?_⟩
    obtain ⟨Ech, hW, h1, h2, h3⟩ := h'
    exact (pss_one (ps_ret (pe_lst (pa_cons pe_str (pa_cons (act W pn xe Ech _ _ tk hW) pa_nil))))).run pins s' σ H' D I ⟨h1, h2, h3⟩
  · refine ⟨EchM C Q, fun cls d σ' G z => ?_, rfl, hc, h⟩
    obtain ⟨A, f, x, m, rfl, dd, v, rfl, gd, q1, q2⟩ := z
    cases m with
    | s => exact (.inl ⟨M.eSS, fun a na li => ⟨_, by rw [List.getElem?_set_self li], rfl, rfl, dd, _, v, rfl, gd, by simp [List.lookup], q1, q2⟩⟩)
    | m => exact (.inr ⟨M.eMS, (.inl ⟨M.eMM, fun a na li => ⟨_, by rw [List.getElem?_set_self li], rfl, rfl, dd, _, v, rfl, gd, by simp [List.lookup], q1, q2⟩⟩)⟩)
end
end OB
namespace OB
open PySem PySem.Spec PyProof.Rows L2 LamX
/-! ### all but the stream and the tables -/
def ButN (p : Addr) (H H' : Hp) : Prop := ∀ b o, b ≠ p → (∀ ps, o ≠ .tbl ps) → H b = some o → H' b = some o
theorem ButN.refl {p : Addr} {H : Hp} : ButN p H H := fun _ _ _ _ h => h
theorem ButN.trans {p : Addr} {H H1 H2 : Hp} (a : ButN p H H1) (b : ButN p H1 H2) : ButN p H H2 := fun x o n m e => b x o n m (a x o n m e)
theorem ButN.of {p : Addr} {H H' : Hp} (a : ButS p H H') : ButN p H H' := fun x o n _ e => a x o n e
theorem ButN.same {p : Addr} {H H' : Hp} (a : Same H H') : ButN p H H' := fun x o _ _ e => a x o e
theorem ButN.ext {p : Addr} {H H' : Hp} (a : ExtN H H') : ButN p H H' := fun x o _ m e => a x o e m
theorem src_ne {n : Nat} {p c : Addr} {H : Hp} {o : HO} (S : Src n H p) (h : H c = some o) (no : ∀ xs, o ≠ .lst xs) : c ≠ p := fun z => by
  obtain ⟨x, y, w, hp, _⟩ := S
  rw [z, hp] at h
  exact no _ (Option.some.inj h).symm
theorem Tabs.but {n : Nat} {T : List (Addr × Str)} {p : Addr} {H H' : Hp} (t : Tabs T H) (S : Src n H p) (e : ButS p H H') : Tabs T H' := fun y hy => by
  obtain ⟨ps, h1, h2, h3⟩ := t y hy
  refine ⟨ps, e _ _ (src_ne S h1 (by intro xs z; cases z)) h1, h2, fun pos cv hc => ?_⟩
  obtain ⟨c, e1, e2⟩ := h3 pos cv hc
  exact ⟨c, e1, e _ _ (src_ne S e2 (by intro xs z; unfold CodeO at z; cases z)) e2⟩
theorem Tabs.same {T : List (Addr × Str)} {H H' : Hp} (t : Tabs T H) (e : Same H H') : Tabs T H' := t.ext e
theorem Src.ext {n : Nat} {p : Addr} {H H' : Hp} (S : Src n H p) (e : ExtN H H') : Src n H' p := by
  obtain ⟨a, b, c, hp, r⟩ := S
  exact ⟨a, b, c, e _ _ hp (by intro ps z; cases z), r⟩
theorem mkX_tbl {tp : Bool} {xs : List V} (ps : Array Value) : mkX tp xs ≠ .tbl ps := by
  cases tp <;> (intro z; cases z)
theorem ExtN.same {H H1 H2 : Hp} (a : ExtN H H1) (b : Same H1 H2) : ExtN H H2 := a.trans (ExtN.of b)
/-- an object that is no table stays -/
theorem ExtN.any {K : PySem.W.Frag} {H H' : Hp} {v : V} {k : Kd} (e : ExtN H H') (h : Any K H v k) : Any K H' v k := by
  cases h with
  | non => exact .non
  | bl b => exact .bl b
  | int i => exact .int i
  | str h => exact .str h
  | lst q => exact .lst (e _ _ q (by intro ps z; cases z))
  | tup q => exact .tup (e _ _ q (by intro ps z; cases z))
  | dct q => exact .dct (e _ _ q (by intro ps z; cases z))
  | fn q c => exact .fn q c
  | ins q o => exact .ins (e _ _ q (by intro ps z; cases z)) o
theorem Thing.ext {K : PySem.W.Frag} {H H' : Hp} {v : V} {r : Option S3} (h : Thing K H v r) (e : ExtN H H') : Thing K H' v r := by
  cases h with
  | seq h a l => exact .seq (e _ _ h mkX_tbl) (fun x m => (a x m).elim fun k q => ⟨k, ExtN.any e q⟩) l
  | no h f => exact .no (ExtN.any e h) f
theorem ArgS.ext {K : PySem.W.Frag} {H H' : Hp} {v : V} {r : Nat ⊕ List S3} (h : ArgS K H v r) (e : ExtN H H') : ArgS K H' v r := by
  cases r with
  | inl i =>
    rcases h with ⟨h0, k, h1, h2⟩ | ⟨a, tp, xs, rs, h1, h2, h3, h4, h5⟩
    · exact .inl ⟨h0, k, ExtN.any e h1, h2⟩
    · exact .inr ⟨a, tp, xs, rs, h1, e _ _ h2 mkX_tbl, Paired.imp (fun _ _ z => Thing.ext z e) h3, h4, h5⟩
  | inr ss =>
    obtain ⟨a, tp, xs, h1, h2, h3, h4⟩ := h
    exact ⟨a, tp, xs, h1, e _ _ h2 mkX_tbl, Paired.imp (fun _ _ z => Thing.ext z e) h3, h4⟩
theorem LRowP.bn {p : Addr} {H H' : Hp} {a : Addr} {ss : List S3} (h : LRowP p H a ss) (b : ButN p H H') : LRowP p H' a ss := by
  obtain ⟨n, tp, vs, h1, h2⟩ := h
  refine ⟨n, tp, vs, b _ _ n mkX_tbl h1, Paired.imp (fun v s z => ?_) h2⟩
  obtain ⟨tp, t, e, n, h⟩ := z
  exact ⟨tp, t, e, n, b _ _ n mkX_tbl h⟩
theorem Row.bn {n : Nat} {p : Addr} {H H' : Hp} {a : Addr} {ss : List S3} (h : Row H a ss) (S : Src n H p) (np : a ≠ p) (b : ButN p H H') : Row H' a ss := by
  obtain ⟨vs, h1, h2⟩ := h
  refine ⟨vs, b _ _ np (by intro ps z; cases z) h1, Paired.imp (fun v s z => ?_) h2⟩
  obtain ⟨t, e, h⟩ := z
  exact ⟨t, e, b _ _ (src_ne S h (by intro xs z; cases z)) (by intro ps z; cases z) h⟩
/-- what stands while the law looks -/
structure LS (TT : List (Addr × Str)) (p : Addr) (n : Nat) (H G : Hp) : Prop where
  but : ButN p H G
  src : Src n G p
  tabs : Tabs TT G
section
variable {TT : List (Addr × Str)} {p : Addr} {n m : Nat} {H G G' : Hp}
theorem LS.start (S : Src n H p) (t : Tabs TT H) : LS TT p n H H := ⟨ButN.refl, S, t⟩
theorem LS.ext (R : LS TT p n H G) (e : ExtN G G') (t : Tabs TT G') : LS TT p n H G' := ⟨R.but.trans (ButN.ext e), R.src.ext e, t⟩
theorem LS.same (R : LS TT p n H G) (e : Same G G') : LS TT p n H G' := R.ext (ExtN.of e) (Tabs.same R.tabs e)
theorem LS.bs (R : LS TT p n H G) (e : ButS p G G') (S : Src m G' p) : LS TT p m H G' := ⟨R.but.trans (ButN.of e), S, Tabs.but R.tabs R.src e⟩
theorem LS.mono (R : LS TT p n H G) (l : n ≤ m) : LS TT p m H G := ⟨R.but, R.src.mono l, R.tabs⟩
end
/-! ### a call all by keywords -/
theorem vals_rev : ∀ {zs : List V} {ws : List Value}, Vals zs ws → Vals zs.reverse ws.reverse
  | _, _, .nil => .nil
  | _, _, .cons a r => by
    rw [List.reverse_cons, List.reverse_cons]
    exact (vals_rev r).append (.cons a .nil)
theorem kbn_rev {K : PySem.W.Frag} {fd : FuncData} {ps ks : List Str} (h : ∀ ws : List Value, ws.length = ks.length → bindArgs fd ⟨[], ks.zip ws⟩ = pure (ps.zip ws.reverse)) : KBn K fd ps 0 ks (fun _ ws => ws.reverse) (fun _ zs => zs.reverse) :=
  { to := fun s us ws _ l1 l2 => by
      have e : us = [] := List.eq_nil_of_length_eq_zero l1
      subst e
      exact .of_eq (h ws l2)
    rel := fun _ r => vals_rev r }
theorem Fun.rev {K : PySem.W.Frag} {x qual : Str} {st : Stmt} {f : Addr} {fd : FuncData} {ps ks : List Str} (F : Fun K x qual st f fd)
    (h : ∀ (kV doc pm : Value) (an : Option Addr) (cdv ct : Value) (ws : List Value), ws.length = ks.length → bindArgs (PySem.W.fnOf x qual (defArgs st) (defBody st) (defScope st) .none kV doc pm an cdv ct) ⟨[], ks.zip ws⟩ = pure (ps.zip ws.reverse)) : KBn K fd ps 0 ks (fun _ ws => ws.reverse) (fun _ zs => zs.reverse) := by
  obtain ⟨oc, od, kV, doc, pm, an, cdv, ct, osl, rfl, lk, hcd⟩ := F.ex
  exact kbn_rev (h kV doc pm an cdv ct)
section
variable {X : Cx} {CX : CXT} {k : Nat} {f : Addr} {fd : FuncData} {ps ks : List Str} {sp : Sp} {E : XK} {x : Str} {p pos : Pos} {kws : List Keyword} {tk : TA} {g : List Value → List Value → List Value} {gV : List V → List V → List V}
/-- f(k = v, ..) -/
theorem pe_callKO (F : FnOk X.prog X.w X.K X.mg X.base CX k f fd ps sp) (hr : Room k X.A) (hg : Gl X x) (hm : X.mg x = some (.ref f)) (hk : PySem.W.keepIn X.K (.ref f) = true) (hb : KBn X.K fd ps 0 ks g gV) (hx : Passes CX X E)
    (hkw : PK X kws tk) (hall : (backToKw pos (keywordEach kws X.env)).all (·.1.isSome) = true := by rfl) (hks : (backToKw pos (keywordEach kws X.env)).filterMap (·.1) = ks := by rfl)
    (hdb : (x == ("__debug__" : Str)) = false := by decide) (hpl : ((backTo pos (starEach [] X.env)).any (·.1) || (backToKw pos (keywordEach kws X.env)).any (·.1.isNone)) = false := by rfl) :
    PE X (.Call (.Name x p) [] kws pos) (tCallN 0 ks.length sp gV E tNil tk) := by
  refine ⟨fun pins s σ H Q I h => ?_⟩
  refine wpAny_Call_Name_kw (ld_glob I hg hm ?_ hdb)
  refine PySem.W.callWith_KW0 (h₀ := X.base) I.ok.mod.kin hk hall ?_ hpl
  refine thn (hkw.run pos pins s σ H _ I h) fun ws s2 ⟨zs, H2, I2, rz, l1, l2, q2⟩ => ⟨I2.kIn, ?_⟩
  rw [hks]
  exact run_fnN (us := []) (vs := []) F hr hb hx I2 .nil rz l1 l2 q2
end
end OB
namespace OB
open PySem PySem.Spec PyProof.Rows L2 LamX
def noE : XK := fun _ _ _ => False
theorem pass_no {X : Cx} : Passes (L2.CX X.prog X.w) X noE := fun _ _ _ _ _ _ _ h => by
  obtain ⟨_, _, _, _, _, _, _, _, _, _, _, _, z⟩ := h
  exact z.elim
/-- a def whose code object is told -/
structure FunC (K : PySem.W.Frag) (x qual : Str) (st : Stmt) (f : Addr) (fd : FuncData) (c : Addr) : Prop where
  ex : ∃ (oc : Value) (od : Option Addr) (kV doc pm : Value) (an : Option Addr) (ct : Value) (osl : Array (Option Value)),
    fd = PySem.W.fnOf x qual (defArgs st) (defBody st) (defScope st) .none kV doc pm an (.ref c) ct ∧ K.lookup f = some ⟨oc, od, .func fd, osl⟩ ∧ PySem.W.codeIn K (.ref c) qual = true
  kp : PySem.W.keepIn K (.ref f) = true
theorem FunC.f {K : PySem.W.Frag} {x qual : Str} {st : Stmt} {f : Addr} {fd : FuncData} {c : Addr} (F : FunC K x qual st f fd c) : Fun K x qual st f fd := by
  obtain ⟨oc, od, kV, doc, pm, an, ct, osl, e, l, h⟩ := F.ex
  exact ⟨⟨oc, od, kV, doc, pm, an, _, ct, osl, e, l, h⟩, F.kp⟩
section
variable {P : Program} {w : World} {K : PySem.W.Frag} {mg : Str → Option Value} {base : Heap}
theorem FunC.ok {x qual : Str} {st : Stmt} {f c : Addr} {fd : FuncData} {N ps : List Str} {k : Nat} {sp : Sp} (F : FunC K x qual st f fd c) (S : FnScope N ps (defScope st)) (len : ∀ vs H Q E, sp vs H Q E → vs.length = ps.length)
    (hbody : ∀ (A : Around) (outer : List Env) (s : Shared) (H : Hp) (vs : List V) (Q : VK) (E : XK), Room k (A.deeper (envOfC qual (defScope st) s.heap.objs.size f (.ref c))) → sp vs H Q E →
      ∃ t, PSs (cxOf CX0 P w K mg base N qual (defScope st) f (.ref c) A outer s H E).nox (defBody st) t ∧ t { nx := fun _ H' => Q .non H', rt := Q } (start N vs) H) : FnOk P w K mg base CX0 (k + 1) f fd ps sp := by
  obtain ⟨oc, od, kV, doc, pm, an, ct, osl, rfl, lk, hcd⟩ := F.ex
  refine fn_of lk hcd S len fun A outer s H vs Q E hr hsp => ?_
  obtain ⟨t, h, q⟩ := hbody A outer s H vs Q E hr hsp
  exact ⟨t, h.nox, q⟩
end
theorem seq_mid {a b : TS} {D : Ends} {σ : L2.St} {H : Hp} (Cond : L2.St → Hp → Prop) (h1 : ∀ K, (∀ σ' G', Cond σ' G' → K σ' G') → a { D with nx := K } σ H) (h2 : ∀ σ' G', Cond σ' G' → b D σ' G') : tSeq a b D σ H := h1 _ h2
theorem pair_same {K : PySem.W.Frag} {G : Hp} : ∀ {us vs : List V} {ss : List S3}, Paired (St G) us ss → Paired (St G) vs ss → Paired (SameV K 2 G) us vs
  | _, _, _, .nil, .nil => .nil
  | _, _, _, .cons ⟨t, e, h⟩ r, .cons ⟨t2, e2, h2⟩ r2 => by
    subst e e2
    exact .cons (SameW.seq (tp := true) h h2 (by simp) (.cons (.int _) (.cons (.int _) (.cons (.int _) .nil)))) (pair_same r r2)
theorem row_same {K : PySem.W.Frag} {G : Hp} {a b : Addr} {ss : List S3} (ha : Row G a ss) (hb : Row G b ss) (l : ss.length < 10000000) : SameV K 3 G (.ref a) (.ref b) := by
  obtain ⟨us, hu, pu⟩ := ha
  obtain ⟨vs, hv, pv⟩ := hb
  exact SameW.seq (tp := false) hu hv (by have := pu.length; omega) (pair_same pu pv)
section
variable {P : Program} {w : World} {K : PySem.W.Frag} {mg : Str → Option Value} {base : Heap}
end
end OB
namespace OB
open PySem PySem.Spec PyProof.Rows L2 LamX
/-- nothing that a number could be: it stays as it is, and is itself -/
def OddV (K : PySem.W.Frag) (p : Addr) (H : Hp) (x : V) : Prop := numV x = false ∧ (∀ n, ixV n x = false) ∧ ∀ H', ButN p H H' → (∃ k, Any K H' x k) ∧ SameV K 2 H' x x
theorem OddV.bn {K : PySem.W.Frag} {p : Addr} {H H' : Hp} {x : V} (h : OddV K p H x) (b : ButN p H H') : OddV K p H' x := ⟨h.1, h.2.1, fun G c => h.2.2 G (b.trans c)⟩
theorem OddV.ix {K : PySem.W.Frag} {p : Addr} {H : Hp} {i n : Nat} (h : OddV K p H (.int (i : Nat))) (l : i < n) : False := by
  have z : (decide ((0 : Int) ≤ (i : Int)) && decide ((i : Int) < (n : Int))) = false := h.2.1 n
  rw [decide_eq_true (by omega), decide_eq_true (by omega)] at z
  cases z
theorem OddV.num {K : PySem.W.Frag} {p : Addr} {H : Hp} {i : Int} (h : OddV K p H (.int i)) (l : 0 ≤ i) : False := by
  have z : decide (0 ≤ i) = false := h.1
  rw [decide_eq_true l] at z
  cases z
theorem Any.bn {K : PySem.W.Frag} {n n' : Nat} {p : Addr} {H H' : Hp} {v : V} {k : Kd} (h : Any K H v k) (S : Src n H p) (S' : Src n' H' p) (b : ButN p H H') : Any K H' v k := by
  cases h with
  | non => exact .non
  | bl b => exact .bl b
  | int i => exact .int i
  | str h => exact .str h
  | @lst a xs q =>
    by_cases e : a = p
    · obtain ⟨x, y, z, hp, _⟩ := S'
      rw [e]
      exact .lst hp
    · exact .lst (b _ _ e (by intro ps z; cases z) q)
  | tup q => exact .tup (b _ _ (src_ne S q (by intro xs z; cases z)) (by intro ps z; cases z) q)
  | dct q => exact .dct (b _ _ (src_ne S q (by intro xs z; cases z)) (by intro ps z; cases z) q)
  | fn q c => exact .fn q c
  | ins q o => exact .ins (b _ _ (src_ne S q (by intro xs z; cases z)) (by intro ps z; cases z) q) o
theorem Thing.bn {K : PySem.W.Frag} {n n' : Nat} {p : Addr} {H H' : Hp} {v : V} {r : Option S3} (h : Thing K H v r) (S : Src n H p) (S' : Src n' H' p) (b : ButN p H H') (np : v ≠ .ref p) : Thing K H' v r := by
  cases h with
  | seq h a l => exact .seq (b _ _ (fun z => np (by rw [z])) mkX_tbl h) (fun x m => (a x m).elim fun k q => ⟨k, q.bn S S' b⟩) l
  | no h f => exact .no (h.bn S S' b) f
/-- what was answered, as a list of two -/
def LRes (G : Hp) (r : V) (y : Str × V) : Prop := ∃ T : Addr, r = .ref T ∧ G T = some (.lst [.str y.1, y.2])
theorem LRes.ext {G G' : Hp} {r : V} {y : Str × V} (h : LRes G r y) (e : ExtN G G') : LRes G' r y := by
  obtain ⟨T, e1, h⟩ := h
  exact ⟨T, e1, e _ _ h (by intro ps z; cases z)⟩
theorem Tabs.putL {T : List (Addr × Str)} {H : Hp} {l : Addr} {xs ys : List V} (t : Tabs T H) (hl : H l = some (.lst xs)) : Tabs T (upd H l (.lst ys)) := fun y hy => by
  obtain ⟨ps, h1, h2, h3⟩ := t y hy
  refine ⟨ps, by rw [upd_ne (ne_of h1 hl (by intro z; cases z))]; exact h1, h2, fun pos cv hc => ?_⟩
  obtain ⟨c, e1, e2⟩ := h3 pos cv hc
  exact ⟨c, e1, by rw [upd_ne (ne_of e2 hl (by intro z; unfold CodeO at z; cases z))]; exact e2⟩
theorem res_put {G : Hp} {F : Addr} {u : HO} : ∀ {rs : List V} {ws : List (Str × V)}, Paired (LRes G) rs ws → (∀ r ∈ rs, r ≠ .ref F) → Paired (LRes (upd G F u)) rs ws
  | _, _, .nil, _ => .nil
  | _, _, .cons ⟨T, e, h⟩ r, n => by
    subst e
    have TF : T ≠ F := fun z => n _ (List.mem_cons_self ..) (by rw [z])
    exact .cons ⟨T, rfl, by rw [upd_ne TF]; exact h⟩ (res_put r fun x m => n x (List.mem_cons_of_mem _ m))
/-- the list of answers, made since H0 -/
structure FS (TT : List (Addr × Str)) (p : Addr) (n : Nat) (H0 : Hp) (F : Addr) (rs : List V) (ws : List (Str × V)) (G : Hp) : Prop where
  s : LS TT p n H0 G
  new : ∀ o, (∀ ps, o ≠ .tbl ps) → H0 F ≠ some o
  np : F ≠ p
  at_ : G F = some (.lst rs)
  res : Paired (LRes G) rs ws
  notF : ∀ r ∈ rs, r ≠ .ref F
section
variable {TT : List (Addr × Str)} {p F : Addr} {n : Nat} {H0 G H3 G4 : Hp} {rs : List V} {ws : List (Str × V)}
theorem FS.ext (h : FS TT p n H0 F rs ws G) (e : ExtN G H3) (t : Tabs TT H3) : FS TT p n H0 F rs ws H3 :=
  ⟨h.s.ext e t, h.new, h.np, e _ _ h.at_ (by intro ps z; cases z), Paired.imp (fun _ _ z => z.ext e) h.res, h.notF⟩
theorem FS.same (h : FS TT p n H0 F rs ws G) (e : Same G H3) : FS TT p n H0 F rs ws H3 := h.ext (ExtN.of e) (Tabs.same h.s.tabs e)
/-- the first answer -/
theorem FS.first {T : Addr} {x : Str} {v : V} (h : LS TT p n H0 G) (e : ExtN G H3) (t : Tabs TT H3) (e4 : Same H3 G4) (gT : G4 T = some (.lst [.str x, v])) (nF : G4 F = none) : FS TT p n H0 F [.ref T] [(x, v)] (upd G4 F (.lst [.ref T])) := by
  have h4 := (h.ext e t).same e4
  have np : F ≠ p := h4.src.ne nF
  refine ⟨h4.same (Same.new nF), fun o mo eo => ?_, np, upd_same, .cons ⟨T, rfl, Same.new nF _ _ gT⟩ .nil, fun r m => ?_⟩
  · have := h4.but F o np mo eo
    rw [nF] at this
    cases this
  · rw [List.mem_singleton.mp m]
    intro z
    have := V.ref.inj z
    rw [this, nF] at gT
    cases gT
/-- one more answer -/
theorem FS.more {T : Addr} {x : Str} {v : V} (h : FS TT p n H0 F rs ws G) (e : ExtN G H3) (t : Tabs TT H3) (e4 : Same H3 G4) (nT : H3 T = none) (gT : G4 T = some (.lst [.str x, v])) :
    G4 F = some (.lst rs) ∧ FS TT p n H0 F (rs ++ [.ref T]) (ws ++ [(x, v)]) (upd G4 F (.lst (rs ++ [.ref T]))) := by
  have h3 := h.ext e t
  have h4 := h3.same e4
  have TF : T ≠ F := fun z => by
    have := h3.at_
    rw [← z, nT] at this
    cases this
  refine ⟨h4.at_, ⟨⟨fun b o nb m eb => ?_, h4.s.src.put h.np, Tabs.putL h4.s.tabs h4.at_⟩, h.new, h.np, upd_same, ?_, fun r m => ?_⟩⟩
  · rw [upd_ne (fun z => h.new o m (by rw [← z]; exact eb))]
    exact h4.s.but b o nb m eb
  · exact Paired.app (res_put h4.res h.notF) (.cons ⟨T, rfl, by rw [upd_ne TF]; exact gT⟩ .nil)
  · rcases List.mem_append.mp m with z | z
    · exact h.notF r z
    · rw [List.mem_singleton.mp z]
      intro y
      exact TF (V.ref.inj y)
end
theorem wrong_arg {K : PySem.W.Frag} {G : Hp} {W : Addr} {us : List V} {ss : List S3} {o : V} {m : Nat} (pu : Paired (St G) us ss) (g : Good ss) (l : us.length ≤ 60) (ho : Thing K G o none) (hm : m ≤ us.length) (hW : G W = some (.lst (us.take m ++ [o, .non] ++ us.drop m))) : ArgS K G (.ref W) (.inl m) := by
  have things : Paired (Thing K G) us (ss.map some) := by
    have := (show LRow G W ss → True from fun _ => trivial)
    refine Paired.map ?_
    clear hW this l hm
    induction pu with
    | nil => exact .nil
    | cons r t ih => exact .cons (LSt.thing r.l (g _ (List.mem_cons_self ..))) (ih fun s m => g s (List.mem_cons_of_mem _ m))
  refine .inr ⟨W, false, _, (ss.map some).take m ++ [none, none] ++ (ss.map some).drop m, rfl, hW, Paired.app (Paired.app (Paired.take m things) (.cons ho (.cons (.no .non rfl) .nil))) (Paired.drop m things), ?_, ?_⟩
  · simp only [List.length_append, List.length_take, List.length_drop, List.length_cons, List.length_nil]
    omega
  · have ll := pu.length
    rw [List.append_assoc, List.findIdx?_append]
    have e1 : ((ss.map some).take m).findIdx? (fun r => r.isNone) = none := by
      rw [List.findIdx?_eq_none_iff]
      intro x mx
      obtain ⟨s, _, rfl⟩ := List.mem_map.mp (List.mem_of_mem_take mx)
      rfl
    rw [e1]
    have e2 : ((ss.map some).take m).length = m := by
      rw [List.length_take, List.length_map]
      omega
    rw [e2]
    simp [List.findIdx?_cons]
theorem pairs_same {K : PySem.W.Frag} {G : Hp} : ∀ {rs ds : List V} {ws : List (Str × V)}, Paired (LRes G) rs ws → Paired (LRes G) ds ws → (∀ y ∈ ws, y.1.length ≤ 100 ∧ SameV K 2 G y.2 y.2) → Paired (SameV K 3 G) rs ds
  | _, _, _, .nil, .nil, _ => .nil
  | _, _, _, .cons ⟨T, e, h⟩ r, .cons ⟨T2, e2, h2⟩ r2, hw => by
    subst e e2
    obtain ⟨w1, w2⟩ := hw _ (List.mem_cons_self ..)
    exact .cons (SameW.seq (tp := false) h h2 (by simp) (.cons (SameW.str w1) (.cons w2 .nil))) (pairs_same r r2 fun y m => hw y (List.mem_cons_of_mem _ m))
section
variable {P : Program} {w : World} {K : PySem.W.Frag} {mg : Str → Option Value} {base : Heap}
end
end OB
namespace OB
open PySem PySem.Spec PyProof.Rows L2 LamX
/-! ### how stays are shown -/
def topD (tp : Bool) (ds : List PyData) : PyData := match tp with
  | true => .tuple ds
  | false => .list ds
abbrev B3 : Type := Bool × S3
def stD (y : B3) : PyData := topD y.1 [.int y.2.1, .int y.2.2.1, .int y.2.2.2]
def rowD (tp : Bool) (bs : List B3) : PyData := topD tp (bs.map stD)
def LD (p : Addr) (H : Hp) (v : V) (y : B3) : Prop := ∃ t : Addr, v = .ref t ∧ t ≠ p ∧ H t = some (mkX y.1 [.int y.2.1, .int y.2.2.1, .int y.2.2.2])
/-- at a such a list or tuple, kinds and all -/
def ShowR (p : Addr) (H : Hp) (a : Addr) (tp : Bool) (bs : List B3) : Prop := a ≠ p ∧ ∃ vs, H a = some (mkX tp vs) ∧ Paired (LD p H) vs bs
theorem ShowR.bn {p : Addr} {H H' : Hp} {a : Addr} {tp : Bool} {bs : List B3} (h : ShowR p H a tp bs) (b : ButN p H H') : ShowR p H' a tp bs := by
  obtain ⟨n, vs, h1, h2⟩ := h
  refine ⟨n, vs, b _ _ n mkX_tbl h1, Paired.imp (fun v y z => ?_) h2⟩
  obtain ⟨t, e, n, h⟩ := z
  exact ⟨t, e, n, b _ _ n mkX_tbl h⟩
theorem ld_of {p : Addr} {H : Hp} : ∀ {vs : List V} {ss : List S3}, Paired (LStP p H) vs ss → ∃ bs, Paired (LD p H) vs bs ∧ bs.map Prod.snd = ss
  | _, _, .nil => ⟨[], .nil, rfl⟩
  | _, _, .cons ⟨tp, t, e, n, h⟩ r => by
    obtain ⟨bs, h1, h2⟩ := ld_of r
    exact ⟨(tp, _) :: bs, .cons ⟨t, e, n, h⟩ h1, by rw [List.map_cons, h2]⟩
theorem LRowP.show_ {p : Addr} {H : Hp} {a : Addr} {ss : List S3} (h : LRowP p H a ss) : ∃ tp bs, ShowR p H a tp bs ∧ bs.map Prod.snd = ss := by
  obtain ⟨n, tp, vs, h1, h2⟩ := h
  obtain ⟨bs, h3, h4⟩ := ld_of h2
  exact ⟨tp, bs, ⟨n, vs, h1, h3⟩, h4⟩
def SmallI (i : Int) : Prop := i.natAbs ≤ 10 ^ 15
theorem show_int {i : Int} (h : SmallI i) : (PyData.int i).showable = true ∧ (PyData.int i).shown.length ≤ 2000 := by
  have lg : i.natAbs.log2 < 1920 := by
    by_cases z : i.natAbs = 0
    · rw [z]
      decide
    · refine (Nat.log2_lt z).mpr (Nat.lt_of_le_of_lt h ?_)
      exact Nat.lt_of_lt_of_le (show 10 ^ 15 < 2 ^ 64 by decide) (Nat.pow_le_pow_right (by decide) (by decide))
  exact ⟨decide_eq_true lg, Nat.le_trans (int_text_len_1921 lg) (by decide)⟩
theorem from_len (acc : Str) (ts : List Str) : (textFrom 1 acc ts).length = acc.length + piled ts := textFrom_length_pos ts 1 acc (Nat.succ_pos 0)
theorem list_le : ∀ ts : List Str, (listText ts).length ≤ piled ts + 2
  | [] => by decide
  | t :: r => by
    have z1 : (("[" : String) : Str).length = 1 := rfl
    have z0 : (("" : String) : Str).length = 0 := rfl
    have z2 : (("]" : String) : Str).length = 1 := rfl
    show (textFrom 1 (("[" : Str) ++ (("" : String) : Str) ++ t) r ++ (("]" : String) : Str)).length ≤ _
    rw [strLen_append, from_len, strLen_append, strLen_append, piled_cons, z1, z0, z2]
    omega
theorem tuple_le (ts : List Str) : (tupleText ts).length ≤ piled ts + 4 := by
  have z1 : (("(" : String) : Str).length = 1 := rfl
  have z2 : (((if ts.length == 1 then ",)" else ")" : String) : Str)).length ≤ 2 := by split <;> decide
  show (((("(" : String) : Str) ++ Str.join ", " ts) ++ ((if ts.length == 1 then ",)" else ")" : String) : Str)).length ≤ _
  rw [strLen_append, strLen_append, z1]
  cases ts with
  | nil =>
    have z3 : (Str.join ", " []).length = 0 := rfl
    omega
  | cons t r =>
    have z3 := join_length_add (t :: r) (by simp)
    omega
theorem piled_le {B : Nat} : ∀ ds : List PyData, (∀ d ∈ ds, d.shown.length ≤ B) → piled (PyData.shownAll ds) ≤ ds.length * (B + 2)
  | [], _ => Nat.zero_le _
  | d :: ds, h => by
    have ih := piled_le ds fun x m => h x (List.mem_cons_of_mem _ m)
    have hd := h d (List.mem_cons_self ..)
    show piled (d.shown :: PyData.shownAll ds) ≤ (ds.length + 1) * (B + 2)
    rw [piled_cons, Nat.add_mul]
    omega
theorem top_le {B : Nat} {tp : Bool} {ds : List PyData} (h : ∀ d ∈ ds, d.shown.length ≤ B) : (topD tp ds).shown.length ≤ ds.length * (B + 2) + 4 := by
  have p1 := piled_le ds h
  cases tp with
  | true =>
    show (tupleText (PyData.shownAll ds)).length ≤ _
    have := tuple_le (PyData.shownAll ds)
    omega
  | false =>
    show (listText (PyData.shownAll ds)).length ≤ _
    have := list_le (PyData.shownAll ds)
    omega
theorem top_sh {tp : Bool} {ds : List PyData} (h : ∀ d ∈ ds, d.showable = true) : (topD tp ds).showable = true := by
  have sh : ∀ l : List PyData, (∀ d ∈ l, d.showable = true) → PyData.showableAll l = true := fun l => by
    induction l with
    | nil => exact fun _ => rfl
    | cons x xs ih =>
      intro hx
      show (x.showable && PyData.showableAll xs) = true
      rw [hx x (List.mem_cons_self ..), ih fun y m => hx y (List.mem_cons_of_mem _ m)]
      rfl
  cases tp with
  | true => exact sh ds h
  | false => exact sh ds h
theorem top_dp {n : Nat} {tp : Bool} {ds : List PyData} (h : ∀ d ∈ ds, d.depth ≤ n) : (topD tp ds).depth ≤ n + 1 := by
  have dp : ∀ l : List PyData, (∀ d ∈ l, d.depth ≤ n) → PyData.depthAll l ≤ n := fun l => by
    induction l with
    | nil => exact fun _ => Nat.zero_le _
    | cons x xs ih =>
      intro hx
      show max x.depth (PyData.depthAll xs) ≤ n
      exact Nat.max_le.mpr ⟨hx x (List.mem_cons_self ..), ih fun y m => hx y (List.mem_cons_of_mem _ m)⟩
  have := dp ds h
  cases tp with
  | true =>
    show PyData.depthAll ds + 1 ≤ n + 1
    omega
  | false =>
    show PyData.depthAll ds + 1 ≤ n + 1
    omega
def SmallB (y : B3) : Prop := SmallI y.2.1 ∧ SmallI y.2.2.1 ∧ SmallI y.2.2.2
theorem st_shown {y : B3} (h : SmallB y) : (stD y).showable = true ∧ (stD y).depth ≤ 1 ∧ (stD y).shown.length ≤ 6010 := by
  obtain ⟨h1, h2, h3⟩ := h
  have a1 := show_int h1
  have a2 := show_int h2
  have a3 := show_int h3
  have three : ∀ {P : PyData → Prop}, P (.int y.2.1) → P (.int y.2.2.1) → P (.int y.2.2.2) → ∀ d ∈ [PyData.int y.2.1, .int y.2.2.1, .int y.2.2.2], P d := fun p1 p2 p3 d m => by
    rcases List.mem_cons.mp m with e | m
    · rw [e]; exact p1
    rcases List.mem_cons.mp m with e | m
    · rw [e]; exact p2
    rcases List.mem_cons.mp m with e | m
    · rw [e]; exact p3
    · cases m
  refine ⟨top_sh (three a1.1 a2.1 a3.1), top_dp (n := 0) (three (Nat.le_refl _) (Nat.le_refl _) (Nat.le_refl _)), ?_⟩
  have := top_le (tp := y.1) (B := 2000) (three (P := fun d => d.shown.length ≤ 2000) a1.2 a2.2 a3.2)
  exact this
theorem row_shown {tp : Bool} {bs : List B3} (h : ∀ y ∈ bs, SmallB y) (l : bs.length ≤ 60) : (rowD tp bs).showable = true ∧ (rowD tp bs).depth ≤ 2 ∧ (rowD tp bs).shown.length ≤ sizeLine := by
  have all : ∀ d ∈ bs.map stD, d.showable = true ∧ d.depth ≤ 1 ∧ d.shown.length ≤ 6010 := fun d m => by
    obtain ⟨y, my, rfl⟩ := List.mem_map.mp m
    exact st_shown (h y my)
  refine ⟨top_sh fun d m => (all d m).1, top_dp fun d m => (all d m).2.1, ?_⟩
  have t := top_le (tp := tp) (B := 6010) fun d m => (all d m).2.2
  rw [List.length_map] at t
  have : bs.length * (6010 + 2) ≤ 60 * 6012 := Nat.mul_le_mul l (Nat.le_refl _)
  rw [sizeLine_eq]
  show (topD tp (bs.map stD)).shown.length ≤ _
  omega
section
variable {P : Program} {w : World} {H : Hp} {h : Heap}
theorem seq_reads {tp : Bool} {a : Addr} {ys : List V} {ds : List PyData} (ok : HOk P w H h) (ns : H sysModules = none) (ha : H a = some (mkX tp ys)) (items : ∀ us : List Value, Vals ys us → ∃ as, ReadsAll h us ds as ∧ sysModules ∉ as) : ∃ as, Reads h (.ref a) (topD tp ds) as ∧ sysModules ∉ as := by
  cases tp with
  | true =>
    obtain ⟨_, its, rv, o2, ho, hc, n, hd⟩ := (show ObjOk P w H h a (.tup ys) from ok a _ ha)
    obtain ⟨as, q1, n1⟩ := items _ rv
    exact ⟨_, .tuple (vs := its.toArray) ho hc hd q1, n1⟩
  | false =>
    obtain ⟨_, its, n, rv, ho⟩ := (show ObjOk P w H h a (.lst ys) from ok a _ ha)
    obtain ⟨as, q1, n1⟩ := items _ rv
    refine ⟨_, .list (vs := its.toArray) ho rfl rfl q1, fun m => ?_⟩
    rcases List.mem_cons.mp m with z | z
    · rw [z, ha] at ns
      cases ns
    · exact n1 z
theorem st_reads {p : Addr} {v : V} {y : B3} (ok : HOk P w H h) (ns : H sysModules = none) (l : LD p H v y) {u : Value} (r : RelV v u) : ∃ as, Reads h u (stD y) as ∧ sysModules ∉ as := by
  obtain ⟨t, rfl, _, ht⟩ := l
  obtain rfl : u = .ref t := r
  refine seq_reads ok ns ht fun us rv => ?_
  cases rv with
  | cons r1 rv =>
    cases rv with
    | cons r2 rv =>
      cases rv with
      | cons r3 rv =>
        cases rv
        obtain ⟨t1, rfl⟩ := r1
        obtain ⟨t2, rfl⟩ := r2
        obtain ⟨t3, rfl⟩ := r3
        exact ⟨_, .cons (as := []) (.int _ t1) (.cons (as := []) (.int _ t2) (.cons (as := []) (.int _ t3) .nil)), by simp⟩
theorem sts_reads {p : Addr} (ok : HOk P w H h) (ns : H sysModules = none) : ∀ {vs : List V} {bs : List B3} {us : List Value}, Paired (LD p H) vs bs → Vals vs us → ∃ as, ReadsAll h us (bs.map stD) as ∧ sysModules ∉ as
  | _, _, _, .nil, r => by
    cases r
    exact ⟨_, .nil, by simp⟩
  | _, _, _, .cons t ts, r => by
    cases r with
    | cons r1 r2 =>
      obtain ⟨as, q1, n1⟩ := st_reads ok ns t r1
      obtain ⟨bs, q2, n2⟩ := sts_reads ok ns ts r2
      exact ⟨_, .cons q1 q2, fun m => (List.mem_append.mp m).elim n1 n2⟩
end
/-- repr of stays, where no repr is under way -/
def rShow : List V → Hp → VK → Prop := fun xs H Q => ∃ (p a : Addr) (tp : Bool) (bs : List B3), xs = [.ref a] ∧ ShowR p H a tp bs ∧ (∀ y ∈ bs, SmallB y) ∧ bs.length ≤ 60 ∧ Q (.str (rowD tp bs).shown) H
theorem call_show {X : Cx} (hg : X.A.guards = some []) (hu : X.A.units + 64 < cLine) (hs : ∃ o, X.base.get? sysModules = some o) : CallR X (.builtin "repr") rShow := by
  intro pins s σ H xs us Q I r h
  obtain ⟨p, a, tp, bs, rfl, ⟨_, vs, ha, pd⟩, sm, l, q⟩ := h
  obtain ⟨u, rfl, rx⟩ := vals1 r
  cases rx
  obtain ⟨o, hs⟩ := hs
  have ns : H sysModules = none := (I.bs sysModules o hs).2
  obtain ⟨t1, t2, t3⟩ := row_shown (tp := tp) sm l
  obtain ⟨as, rd, nm⟩ := seq_reads I.hok ns ha fun us rv => sts_reads I.hok ns pd rv
  exact repr_of_reads' rd t1 (fun _ => nm) hg (by show X.A.units + ((rowD tp bs).depth + 1) < cLine; omega) (fun _ _ e => e) (fun h' u tk k => ⟨.str (rowD tp bs).shown, H, I.kept (t' := tk) k, ⟨_, rfl⟩, q⟩) t3
end OB
/-! sorted(range(n), key=f): n numbers from 0 on, by a function that keeps the heap. -/
namespace OB
open PySem PySem.Spec PyProof.Rows L2 LamX PySem.W
section
variable {prog : Program} {w : World} {A : Around} {E : Value → Shared → Prop} {s : Shared}
abbrev IsNo (v : Value) (i : Nat) : Prop := ∃ t, v = .int (i : Nat) t
theorem each_no : ∀ (us : List Value) (m : Nat), (∀ j u, us[j]? = some u → IsNo u (m + j)) → EachIs IsNo us ((List.range us.length).map (m + ·))
  | [], _, _ => .nil
  | u :: r, m, h => by
    rw [List.length_cons, List.range_succ_eq_map, List.map_cons, List.map_map]
    refine .cons (h 0 u rfl) ?_
    have e : (fun x => m + x) ∘ Nat.succ = fun x => (m + 1) + x := by
      funext x
      show m + (x + 1) = _
      omega
    rw [e]
    exact each_no r (m + 1) fun j v q => by
      have := h (j + 1) v q
      rw [show m + 1 + j = m + (j + 1) from by omega]
      exact this
/-- what collect makes of a range: the heap has grown by the list at its end -/
theorem collect_rg {r : Addr} {n : Nat} {t u v : Tok} {Q : List Value → Shared → Prop} (hh : A.handled = none) (hr : IsRange s.heap r 0 (n : Int) 1 t u v) (hn : n ≤ 1000)
    (h : ∀ (g : Heap) (tk : Nat) (acc : Array Value), (∀ b o, s.heap.get? b = some o → g.get? b = some o) → s.heap.objs.size < g.objs.size → ItemsOf (fun i x => ∃ t, x = .int (0 + i * 1) t) acc n → Q acc.toList { s with heap := g, toks := tk }) :
    wpAny (model prog w) A (collect (.ref r)) Q E s := by
  have sz : Builtin.Range.rangeSize 0 (n : Int) 1 = n := by
    have := rangeSize_nat 0 (n : Int)
    simpa using this
  let End : Result → Shared → Prop := fun res z => res = .ok (.ret (.ref s.heap.objs.size)) ∧ ∃ (g : Heap) (tk : Nat) (acc : Array Value) (c : Nat), z = { s with heap := g, toks := tk } ∧ (∀ b o, s.heap.get? b = some o → g.get? b = some o) ∧
    g.get? s.heap.objs.size = some { cls := .type "list", dict := none, data := .seq acc c, slots := #[] } ∧ ItemsOf (fun i x => ∃ t, x = .int (0 + i * 1) t) acc n
  unfold collect
  refine wpAny_bind (wpAny_runValue (codeAny_builtin F.entry_proto_collect ?_))
  rw [Around.under_plainId F.plain_proto_collect _]
  show wpAny _ A.in1 (newList [] >>= fun l => again (.builtin "list.__iadd__" ⟨[l, .ref r], []⟩)) _ _ s
  refine wpAny_bind (wpAny_newObj_type (wpAny_pure ⟨plainId_quiet F.plain_list_iadd _, codeAny_builtin F.entry_list_iadd ?_⟩))
  rw [Around.under_plainId F.plain_list_iadd _]
  show wpAny _ A.in1 (Builtin.List.listExtendWith (.ref s.heap.objs.size) (.ref r) (.ref s.heap.objs.size)) _ _ _
  refine wpAny_mono (wpAny_extend_range (A := A) (R := End) (s := { s with heap := s.heap.push { cls := .type "list", data := .seq ([] : List Value).toArray } }) hh (Heap.get?_push_of_some _ hr) (small_one (by decide) (by decide) (by omega) (by omega)) sz (Nat.le_trans hn (by decide)) _ _ 0 (Heap.get?_push_size _ rfl)
    (fun g tk acc c k at_ items => ⟨rfl, g, tk, acc, c, rfl, fun b o e => k b o (Nat.ne_of_lt (Heap.lt_size e)) (Heap.get?_push_of_some _ e), at_, items⟩)) (fun fin z hz => ?_) fun e z hz => absurd hz.1 (by simp)
  have fine : ∀ {res : Result} {z : Shared}, End res z → (match res with
      | .ok (.ret v) => wpAny (model prog w) A (match v with
        | .ref a => do
          let o ← load a
          match o.data with
          | .seq xs _ => pure xs.toList
          | _ => unsupported "internal:collect"
        | _ => unsupported "internal:collect") Q E z
      | .ok _ => False
      | .error e => E e z) := fun {res z} e => by
    obtain ⟨rfl, g, tk, acc, c, rfl, k, at_, items⟩ := e
    exact wpAny_bind (wpAny_load at_ (wpAny_pure (h g tk acc k (Heap.lt_size at_) items)))
  cases fin with
  | done f => exact fine hz
  | again c' => exact ⟨hz.1, codeAny_mono hz.2 fun rr z2 e => fine e⟩
theorem sorted_key_rg {r : Addr} {n : Nat} {q : Addr} {t u v : Tok} {k : Nat → PyData} {Q : Value → Shared → Prop} (hh : A.handled = none) (hr : IsRange s.heap r 0 (n : Int) 1 t u v) (hn : n ≤ 1000)
    (hal : AllAlike ((List.range n).map k)) (hsk : Sortable ((List.range n).map k)) (hu : ∀ x, x < n → A.units + 2 + (k x).depth < cLine)
    (turn : ∀ (i : Nat) (tv : Tok), i < n → ∀ (h : Heap) (tk : Nat), (∀ b o, s.heap.get? b = some o → h.get? b = some o) →
      wpAny (model prog w) A.in1.in1 (call (.ref q) [.int (i : Nat) tv]) (KeyPure (k i) { s with heap := h, toks := tk }) (fun _ _ => False) { s with heap := h, toks := tk })
    (h : ∀ (out : List Value) (c : Nat) (h' : Heap) (tk : Nat) (D : Addr), (∀ b o, s.heap.get? b = some o → h'.get? b = some o) → s.heap.objs.size ≤ D → h'.get? D = some (seqObj "list" (List.toArray out) c) → EachIs IsNo out ((List.range n).mergeSort (dataLe false k)) →
      Q (.ref D) { s with heap := h', toks := tk }) :
    wpAny (model prog w) A (call (.builtin "sorted") [.ref r] [(Str.ofString "key", .ref q)]) Q E s := by
  refine call_function_entry_kw kind_sorted plain_sorted entry_sorted (by unfold argsOk; kernel_rfl) ?_
  unfold Builtin.«sorted»
  refine wpAny_bind (m := checkCount "sorted" 1 1 _) (wpAny_pure ?_)
  refine wpAny_bind (collect_rg (A := A.in1) hh hr hn fun h1 tk1 acc k1 grow hi => ?_)
  have la : acc.toList.length = n := by rw [Array.length_toList]; exact hi.1
  have hL : acc.toList.length ≤ sizeLine := by rw [la, sizeLine_eq]; omega
  refine wpAny_bind (wpAny_newList ?_ hL)
  have each : EachIs IsNo acc.toList (List.range n) := by
    have z := each_no acc.toList 0 fun j u hj => by
      obtain ⟨t', e⟩ := hi.2 j u (by rw [← hj, Array.getElem?_toList])
      exact ⟨t', by rw [e, Int.mul_one, Nat.zero_add, Int.zero_add]⟩
    rw [la] at z
    simpa using z
  have hD : (h1.push (seqObj "list" acc.toList.toArray 0)).get? h1.objs.size = some (seqObj "list" acc.toList.toArray 0) := Heap.get?_push_size _ rfl
  refine wpAny_bind (wpAny_holding (wpAny_call_entry_kw slot_list_sort ⟨_, hD, rfl⟩ entry_list_sort ?body (by unfold argsOk; kernel_rfl)))
  case body =>
    show wpAny (model prog w) A.in1.in1 (Builtin.«list.sort» ⟨[.ref h1.objs.size], [(Str.ofString "key", .ref q)]⟩) _ _ _
    rw [ksk_t1]
    have up : ∀ {g : Heap}, KeepsBut h1.objs.size (h1.push (seqObj "list" acc.toList.toArray 0)) g → ∀ b o, s.heap.get? b = some o → g.get? b = some o := fun kp b o e =>
      kp b o (Nat.ne_of_lt (Heap.lt_size (k1 _ _ e))) (Heap.get?_push_of_some _ (k1 _ _ e))
    refine keyH_tree (kz := (List.range n).map k) (A := A.in1.in1) (s := { s with heap := h1.push (seqObj "list" acc.toList.toArray 0), toks := tk1 }) hD (by rw [List.length_map, List.length_range, la]) hL hal hsk (fun d m => ?_) (keyH_turns each fun vv x hR hx hp tk kp => ?_) fun h' tk out c kp hD' ko => ?_
    · obtain ⟨x, mx, rfl⟩ := List.mem_map.mp m
      exact hu x (List.mem_range.mp mx)
    · obtain ⟨tv, rfl⟩ := hR
      exact turn x tv (List.mem_range.mp hx) hp tk (up kp)
    · exact ⟨_, rfl, wpAny_pure ⟨_, rfl, h out c h' tk h1.objs.size (up kp) (Nat.le_of_lt grow) hD' (keyedOut_each k ko each)⟩⟩
end
end OB
namespace OM
/-- by begins, then by indexes -/
abbrev Ahead (b : Nat → Int) (i j : Nat) : Prop := b i < b j ∨ (b i = b j ∧ i < j)
structure Order (b : Nat → Int) (n : Nat) (os : List Nat) : Prop where
  perm : os.Perm (List.range n)
  asc : os.Pairwise (Ahead b)
theorem Order.one {b : Nat → Int} {n : Nat} {os ps : List Nat} (h : Order b n os) (g : Order b n ps) : os = ps := by
  refine List.Perm.eq_of_pairwise (le := Ahead b) (fun x y _ _ h1 h2 => ?_) h.asc g.asc (h.perm.trans g.perm.symm)
  unfold Ahead at h1 h2
  omega
theorem pair_in : ∀ {l : List Nat} {q p : Nat}, l.Pairwise (· < ·) → q ∈ l → p ∈ l → q < p → [q, p].Sublist l
  | x :: xs, q, p, h, hq, hp, lt => by
    obtain ⟨h1, h2⟩ := List.pairwise_cons.mp h
    rcases List.mem_cons.mp hq with e | mq
    · rcases List.mem_cons.mp hp with e2 | mp
      · omega
      · rw [e]
        exact List.Sublist.cons_cons _ (List.singleton_sublist.mpr mp)
    · rcases List.mem_cons.mp hp with e2 | mp
      · have := h1 q mq
        omega
      · exact List.Sublist.cons _ (pair_in h2 mq mp lt)
theorem pair_once : ∀ {l : List Nat} {p q : Nat}, l.Nodup → [p, q].Sublist l → [q, p].Sublist l → False
  | [], _, _, _, h, _ => by cases h
  | x :: xs, p, q, nd, h, g => by
    obtain ⟨n1, n2⟩ := List.nodup_cons.mp nd
    cases h with
    | cons _ h =>
      cases g with
      | cons _ g => exact pair_once n2 h g
      | cons_cons _ g => exact n1 (h.subset (by simp))
    | cons_cons _ h =>
      cases g with
      | cons _ g => exact n1 (g.subset (by simp))
      | cons_cons _ g => exact n1 (List.singleton_sublist.mp g)
theorem order_int (b : Nat → Int) (n : Nat) : Order b n ((List.range n).mergeSort fun i j => decide (b i ≤ b j)) := by
  have tr : ∀ x y z : Nat, decide (b x ≤ b y) = true → decide (b y ≤ b z) = true → decide (b x ≤ b z) = true := fun x y z h1 h2 => by
    simp only [decide_eq_true_eq] at h1 h2 ⊢
    omega
  have tot : ∀ x y : Nat, (decide (b x ≤ b y) || decide (b y ≤ b x)) = true := fun x y => by
    simp only [Bool.or_eq_true, decide_eq_true_eq]
    omega
  refine ⟨List.mergeSort_perm _ _, ?_⟩
  have p1 := List.pairwise_mergeSort tr tot (List.range n)
  have nd : ((List.range n).mergeSort fun i j => decide (b i ≤ b j)).Nodup := (List.mergeSort_perm _ _).nodup_iff.mpr List.nodup_range
  rw [List.pairwise_iff_forall_sublist] at p1 ⊢
  intro p q sub
  have h1 := p1 sub
  simp only [decide_eq_true_eq] at h1
  have mem : ∀ x, x ∈ [p, q] → x ∈ List.range n := fun x m => (List.mergeSort_perm _ _).mem_iff.mp (sub.subset m)
  rcases Int.lt_or_eq_of_le h1 with z | z
  · exact .inl z
  refine .inr ⟨z, ?_⟩
  rcases Nat.lt_trichotomy p q with y | y | y
  · exact y
  · subst y
    exact (pair_once nd sub sub).elim
  · exfalso
    have s2 := pair_in List.pairwise_lt_range (mem q (by simp)) (mem p (by simp)) y
    exact pair_once nd sub (List.pair_sublist_mergeSort tr tot (by simp only [decide_eq_true_eq]; omega) s2)
theorem order_pair (b : Nat → Int) (n : Nat) : Order b n ((List.range n).mergeSort fun i j => decide (b i < b j ∨ (b i = b j ∧ ((i : Nat) : Int) ≤ (j : Nat)))) := by
  have tr : ∀ x y z : Nat, decide (b x < b y ∨ (b x = b y ∧ ((x : Nat) : Int) ≤ (y : Nat))) = true → decide (b y < b z ∨ (b y = b z ∧ ((y : Nat) : Int) ≤ (z : Nat))) = true → decide (b x < b z ∨ (b x = b z ∧ ((x : Nat) : Int) ≤ (z : Nat))) = true := fun x y z h1 h2 => by
    simp only [decide_eq_true_eq] at h1 h2 ⊢
    omega
  have tot : ∀ x y : Nat, (decide (b x < b y ∨ (b x = b y ∧ ((x : Nat) : Int) ≤ (y : Nat))) || decide (b y < b x ∨ (b y = b x ∧ ((y : Nat) : Int) ≤ (x : Nat)))) = true := fun x y => by
    simp only [Bool.or_eq_true, decide_eq_true_eq]
    omega
  refine ⟨List.mergeSort_perm _ _, ?_⟩
  have p1 := List.pairwise_mergeSort tr tot (List.range n)
  have nd : ((List.range n).mergeSort fun i j => decide (b i < b j ∨ (b i = b j ∧ ((i : Nat) : Int) ≤ (j : Nat)))).Nodup := (List.mergeSort_perm _ _).nodup_iff.mpr List.nodup_range
  rw [List.pairwise_iff_forall_sublist] at p1 ⊢
  intro p q sub
  have h1 := p1 sub
  simp only [decide_eq_true_eq] at h1
  have ne : p ≠ q := fun z => by
    subst z
    exact (pair_once nd sub sub).elim
  unfold Ahead
  omega
end OM
namespace OB
open PySem PySem.Spec PyProof.Rows L2 LamX PySem.W
/-- at a a list of tuples that begin with whole numbers -/
def BegAt (h : Heap) (a : Addr) (n : Nat) (b : Nat → Int) : Prop := ∃ us : List Value, h.IsList a us.toArray ∧ us.length = n ∧ ∀ i, i < n → ∃ (t : Addr) (its : Array Value) (tk : Tok), us[i]? = some (.ref t) ∧ IsTup h t its ∧ its[0]? = some (.int (b i) tk)
section
variable {prog : Program} {w : World} {A : Around} {E : Value → Shared → Prop} {s : Shared} {env : Env}
theorem begin_eval {x y : Str} {c a : Addr} {n i : Nat} {b : Nat → Int} {m : Str → Option Value} {tv : Tok} {p1 p2 p3 p4 p5 : Pos} {Q : Value → Shared → Prop} (hk : env.scope.kind = .function) (hf : env.kindOf y = some .free) (hc : env.cells.lookup y = some c) (hcell : s.heap.IsCell c (some (.ref a)))
    (hl : env.kindOf x = some .local) (hn : s.heap.Ns env.locals m) (hv : m x = some (.int (i : Nat) tv)) (hb : BegAt s.heap a n b) (hi : i < n) (hn2 : n ≤ 1000) (dx : (x == ("__debug__" : Str)) = false) (dy : (y == ("__debug__" : Str)) = false) (cy : (y == ("__classdict__" : Str)) = false)
    (q : ∀ t tk, Q (.int (b i) t) { s with toks := tk }) : wpAny (model prog w) A (eval (.Subscript (.Subscript (.Name y p1) (.Name x p2) p3) (.Constant (.int 0) 0 p4) p5) env) Q E s := by
  obtain ⟨us, hu, hlen, items⟩ := hb
  obtain ⟨t, its, tk, e1, e2, e3⟩ := items i hi
  refine Subscript_ (Subscript_ (wpAny_Name (wpAny_loadName_free hk hf hc hcell (wpAny_Name (wpAny_loadName_local hk hl hn hv ?_) dx) cy) dy))
  refine item_listR (x := .ref t) hu (by omega) (by omega) (by rw [Int.toNat_natCast, List.getElem?_toArray]; exact e1) ?_ (by rfl)
  refine wpAny_Constant_int ?_
  exact subscriptTail_builtinR (x := .int (b i) tk) e2.typeIs slot_tuple_getitem.lookup (PyProof.Rows.getItem_tuple (j := 0) (Q := fun r s' => r = .int (b i) tk ∧ Q r s') e2 (by omega) (by omega) (by
    have : 0 < its.size := by
      rcases Nat.eq_zero_or_pos its.size with z | z
      · rw [Array.getElem?_eq_none (by omega)] at e3; cases e3
      · exact z
    rw [seqIndex_of (by omega) (by omega)] <;> rfl) e3 ⟨rfl, q _ _⟩) (by rfl)
end
end OB
namespace OB
open PySem PySem.Spec PyProof.Rows L2 LamX PySem.W
section
variable {prog : Program} {w : World} {A : Around} {s : Shared}
theorem key_call {f c' : Addr} {qq x : Str} {params : Arguments} {body : Expr} {scope : Scope} {clo : List (Str × Addr)} {pm ctv v : Value} {k : PyData} (hd : A.depth < recursionLimit) (hf : s.heap.get? f = some (kla_obj "<lambda>" qq params body scope clo pm c' ctv)) (lim : s.heap.NoLimit)
    (hc : s.heap.CodeRec (.ref c') qq) (kind : scope.kind = .function) (co : scope.isCoroutine = false) (gen : scope.isGenerator = false) (nocell : ∀ y ∈ scope.names, y.2 ≠ .cell) (hx : scope.names.lookup x = some .local)
    (hbind : bindArgs (kla_fn "<lambda>" qq params body scope clo pm (.ref c') ctv) ⟨[v], []⟩ = pure [(x, v)])
    (hbody : ∀ (h₁ : Heap) (tk : Nat), (∀ b o, s.heap.get? b = some o → h₁.get? b = some o) → h₁.Ns s.heap.objs.size (fun y => [(x, v)].reverse.lookup y) →
      wpAny (model prog w) (A.deeper (envX qq scope s.heap.objs.size f (.ref c') clo)) (eval body (envX qq scope s.heap.objs.size f (.ref c') clo)) (fun u s' => KeyPure k s u s') (fun _ _ => False) { s with heap := h₁, toks := tk }) :
    wpAny (model prog w) A (call (.ref f) [v]) (KeyPure k s) (fun _ _ => False) s := by
  refine wpAny_call (kla_callFunE hd hf rfl co gen rfl hc ?_)
  rw [hbind]
  refine wpAny_pure (wpAny_newFunctionEnv nocell (fun y hy => by rw [List.mem_singleton.mp hy]; exact hx) (fun h₁ hns hsb => ⟨lim.fresh _ hsb, ?_⟩) kind)
  have kp : ∀ b o, s.heap.get? b = some o → h₁.get? b = some o := fun b o e => hsb.extBut b o (Nat.ne_of_lt (Heap.lt_size e)) (Heap.get?_push_of_some _ e)
  show codeAny _ _ (.expr body (envX qq scope s.heap.objs.size f (.ref c') clo)) _ _
  exact kla_codeExpr (wpAny_mono (hbody h₁ _ kp hns) (fun u s' hq => hq) fun e s' hq => hq.elim)
end
end OB
namespace OB
open PySem PySem.Spec PyProof.Rows L2 LamX PySem.W
/-! ### sorted(range(..), key=lambda x: ..), the key by the begins of stays -/
/-- what the body of such a lambda must give -/
def KeyBody (y x : Str) (body : Expr) (kf : (Nat → Int) → Nat → PyData) : Prop := ∀ (prog : Program) (w : World) (A : Around) (s : Shared) (env : Env) (c a : Addr) (n i : Nat) (b : Nat → Int) (m : Str → Option Value) (tv : Tok), env.scope.kind = .function → env.kindOf y = some .free → env.cells.lookup y = some c → s.heap.IsCell c (some (.ref a)) →
  env.kindOf x = some .local → s.heap.Ns env.locals m → m x = some (.int (i : Nat) tv) → BegAt s.heap a n b → i < n → n ≤ 1000 → wpAny (model prog w) A (eval body env) (KeyPure (kf b i) s) (fun _ _ => False) s
structure SortKey (y x : Str) (body : Expr) (kf : (Nat → Int) → Nat → PyData) : Prop where
  run : KeyBody y x body kf
  al : ∀ b i j, alike (kf b i) (kf b j) = true
  so : ∀ b n, Sortable ((List.range n).map (kf b))
  dp : ∀ b i, (kf b i).depth ≤ 1
  or : ∀ b n, OM.Order b n ((List.range n).mergeSort (dataLe false (kf b)))
theorem pure_tok {k : PyData} {s : Shared} {v : Value} {tk : Nat} (r : ∀ h, Reads h v k []) : KeyPure k s v { s with toks := tk } := ⟨s.heap, tk, rfl, fun _ _ e => e, r _⟩
theorem sortKey1 {y x : Str} {p1 p2 p3 p4 p5 : Pos} (dx : (x == ("__debug__" : Str)) = false) (dy : (y == ("__debug__" : Str)) = false) (cy : (y == ("__classdict__" : Str)) = false) :
    SortKey y x (.Subscript (.Subscript (.Name y p1) (.Name x p2) p3) (.Constant (.int 0) 0 p4) p5) (fun b i => .int (b i)) := by
  refine ⟨fun prog w A s env c a n i b m tv h1 h2 h3 h4 h5 h6 h7 h8 h9 h10 => begin_eval h1 h2 h3 h4 h5 h6 h7 h8 h9 h10 dx dy cy fun t tk => pure_tok fun h => .int _ t, fun _ _ _ => rfl, fun b n => Sortable.others fun i => ⟨(by intro z; cases z), fun xs z => by cases z⟩, fun _ _ => Nat.zero_le _, fun b n => ?_⟩
  rw [dataLe_int]
  exact OM.order_int b n
theorem sortKey2 {y x : Str} {p1 p2 p3 p4 p5 p6 p7 : Pos} {kt : Nat} (dx : (x == ("__debug__" : Str)) = false) (dy : (y == ("__debug__" : Str)) = false) (cy : (y == ("__classdict__" : Str)) = false) :
    SortKey y x (.Tuple [.Subscript (.Subscript (.Name y p1) (.Name x p2) p3) (.Constant (.int 0) 0 p4) p5, .Name x p6] kt p7) (fun b i => .tuple [.int (b i), .int (i : Nat)]) := by
  refine ⟨fun prog w A s env c a n i b m tv h1 h2 h3 h4 h5 h6 h7 h8 h9 h10 => ?_, fun _ _ _ => rfl, fun b n => Sortable.tuples fun i => ⟨_, _, rfl⟩, fun _ _ => (show max 0 (max 0 0) + 1 ≤ 1 by decide), fun b n => ?_⟩
  · refine Tuple_ (args_cons (begin_eval h1 h2 h3 h4 h5 h6 h7 h8 h9 h10 dx dy cy fun t tk => args_cons (wpAny_Name (wpAny_loadName_local h1 h5 h6 h7 (args_nil ?_)) dx) (by rfl)) (by rfl))
    refine wpAny_newObj_type ?_ (by show 2 ≤ sizeLine; decide)
    refine ⟨_, tk, rfl, fun b o e => Heap.get?_push_of_some _ e, ?_⟩
    exact .tuple (vs := #[.int (b i) t, .int (i : Nat) tv]) (Heap.get?_push_size _ rfl) rfl rfl (.cons (as := []) (.int _ t) (.cons (as := []) (.int _ tv) .nil))
  · rw [dataLe_ii]
    exact OM.order_pair b n
end OB
namespace OB
open PySem PySem.Spec PyProof.Rows L2 LamX PySem.W
def begs (ss : List S3) (i : Nat) : Int := (ss[i]?.map fun s => s.1).getD 0
/-- range(n) as an object of our own -/
def PRgF (X : Cx) (e : Expr) (t : L2.St → Hp → (Int → Hp → Prop) → Prop) : Prop := ∀ (pins : List (Addr × Obj)) (s : Shared) (σ : L2.St) (H : Hp) (Q : Int → Hp → Prop), Inv X pins σ H s → t σ H Q →
  wpAny (model X.prog X.w) X.A (eval e X.env) (fun x s' => ∃ r n t u v H', x = .ref r ∧ IsRange s'.heap r 0 n 1 t u v ∧ FpOk X pins H' r ∧ Inv X pins σ H' s' ∧ Q n H') X.xe s
def tRgF (ta : TE) : L2.St → Hp → (Int → Hp → Prop) → Prop := fun σ H Q => ta σ H fun x H1 => ∃ n, x = .int n ∧ Q n H1
theorem prg_f {X : Cx} {a : Expr} {ta : TE} {p pos : Pos} (hg : Gl X "range") (hm : X.mg "range" = none) (ha : PE X a ta) (na : starEach [a] X.env = (false, eval a X.env) :: starEach [] X.env := by rfl) : PRgF X (.Call (.Name "range" p) [a] [] pos) (tRgF ta) := by
  intro pins s σ H Q I h
  refine Call_ (ld_blt I hg hm boot_range (PyProof.Rows.callWith_type1 (one_arg ha I h (fun v s2 x H2 I2 r q => ?_) na) na))
  obtain ⟨n, rfl, q⟩ := q
  obtain ⟨t, rfl⟩ := r
  exact call_range_1 ⟨s2.heap.objs.size, n, _, _, _, H2, rfl, IsRange.new _ _ _ _ _ _ _, I2.fpOk (Nat.le_refl _) (I2.hok.fresh (Nat.le_refl _)), I2.kept fun b u e => Heap.get?_push_of_some _ e, q⟩
def tSortK (T : List (Addr × Str)) (iy : Nat) (tr : L2.St → Hp → (Int → Hp → Prop) → Prop) : TE := fun σ H Q => tr σ H fun m H1 => ∃ (a : Addr) (ss : List S3), m = (ss.length : Nat) ∧ σ[iy]? = some (some (.ref a)) ∧ Row H1 a ss ∧ ss.length ≤ 1000 ∧ Tabs T H1 ∧
  ∀ H2, ExtN H1 H2 → Tabs T H2 → ∀ D os, OM.Order (begs ss) ss.length os → H2 D = none → Q (.ref D) (upd H2 D (.lst (os.map fun i => V.int (i : Nat))))
/-- the begins of a row, as the heap has them -/
theorem row_beg {X : Cx} {pins : List (Addr × Obj)} {σ : L2.St} {H : Hp} {s : Shared} {a : Addr} {ss : List S3} (I : Inv X pins σ H s) (row : Row H a ss) : BegAt s.heap a ss.length (begs ss) := by
  obtain ⟨vs, hv, pv⟩ := row
  obtain ⟨its, rv, pl, hz⟩ := I.list (SqL.of hv)
  refine ⟨its, pl.isList, by rw [← rv.length, pv.length], fun i hi => ?_⟩
  obtain ⟨v, hvi⟩ : ∃ v, vs[i]? = some v := ⟨_, List.getElem?_eq_getElem (by have := pv.length; omega)⟩
  obtain ⟨x, hx, t, rfl, ht⟩ := Paired.at pv hvi
  obtain ⟨u, hu, ru⟩ := rv.get hvi
  obtain rfl : u = .ref t := ru
  obtain ⟨jts, jv, jp, _⟩ := I.tuple (SqT.of ht)
  cases jv with
  | cons r1 jv =>
    obtain ⟨tk, rfl⟩ := r1
    exact ⟨t, _, tk, hu, jp, by
      have e : begs ss i = x.1 := by
        unfold begs
        rw [hx] <;> rfl
      rw [e] <;> rfl⟩
theorem BegAt.keeps {h h' : Heap} {a : Addr} {n : Nat} {b : Nat → Int} (x : BegAt h a n b) (k : ∀ c o, h.get? c = some o → h'.get? c = some o) : BegAt h' a n b := by
  obtain ⟨us, ⟨o, e1, e2⟩, e3, e4⟩ := x
  exact ⟨us, ⟨o, k _ _ e1, e2⟩, e3, fun i hi => by
    obtain ⟨t, its, tk, z1, z2, z3⟩ := e4 i hi
    exact ⟨t, its, tk, z1, z2.keeps k, z3⟩⟩
section
variable {X : Cx}
theorem pe_sortKey {T : List (Addr × Str)} {c P : Addr} {iy : Nat} {y x : Str} {re body : Expr} {kf : (Nat → Int) → Nat → PyData} {params : Arguments} {scope : Scope} {tr : L2.St → Hp → (Int → Hp → Prop) → Prop} {p lpos kpos pos : Pos}
    (hcalm : X.calm = true) (hg : Gl X "sorted") (hm : X.mg "sorted" = none) (hr : PRgF X re tr) (K : SortKey y x body kf) (hN : X.N[iy]? = some y) (hcy : X.env.scope.names.lookup y = some .cell)
    (TB : TabB X.base X.mg c P) (hcode : X.env.code = .ref c) (hmT : (P, X.env.qual ++ "<lambda>") ∈ T) (hu : ∀ p ∈ T, p.1 = P → p.2 = X.env.qual ++ "<lambda>") (hroom : Room 2 X.A) (hdef : defaultsOf params X.env = ([], []))
    (kind : scope.kind = .function) (co : scope.isCoroutine = false) (gen : scope.isGenerator = false) (hsc : scope.names = [(x, .local), (y, .free)]) (hxy : x ≠ y)
    (hbind : ∀ (q : Str) (cl : List (Str × Addr)) (pm cv ctv v : Value), bindArgs (PySem.W.kla_fn "<lambda>" q params body scope cl pm cv ctv) ⟨[v], []⟩ = pure [(x, v)])
    (na : starEach [re] X.env = (false, eval re X.env) :: starEach [] X.env := by rfl) (he : backTo pos (starEach [re] X.env) = (false, eval re X.env) :: backTo pos (starEach [] X.env) := by rfl) (hpl : (backTo pos (starEach [re] X.env)).any (·.1) = false := by rfl) :
    PE X (.Call (.Name "sorted" p) [re] [⟨some "key", .Lambda params body scope lpos, kpos⟩] pos) (tSortK T iy tr) := by
  refine ⟨fun pins s σ H Q I h => ?_⟩
  refine wpAny_Call_Name_kw (ld_blt I hg hm (by decide +kernel : bootBuiltins "sorted" = some (.builtin "sorted")) ?_)
  refine PyProof.Rows.callWith_kw (args_cons (thn (hr pins s σ H _ I h) fun rv s1 ⟨r, m, t, u, v, H1, er, hrg, fp, I1, q1⟩ => args_nil ?_) na) he hpl (by rfl) (by rfl)
  obtain ⟨a, ss, rfl, hσ, row, hl, tabs, q⟩ := q1
  subst er
  have ne : r ∈ [r] := List.mem_singleton.mpr rfl
  have I2 : Inv X (pins ++ pinsAt [r] s1.heap) σ H1 s1 := I1.pinned (fp := [r]) (fun b hb => by rw [List.mem_singleton.mp hb]; exact fp) (fun b hb => by rw [List.mem_singleton.mp hb]; exact ⟨_, hrg, fun v z => by cases z⟩)
  have hvy : Vis X.env.scope y := .inr (.inl hcy)
  have free : ∀ z ∈ scope.names, z.2 = .free → ∃ c, X.env.cells.lookup z.1 = some c := fun z mz ez => by
    rw [hsc] at mz
    rcases List.mem_cons.mp mz with e | mz
    · rw [e] at ez
      cases ez
    · rw [List.mem_singleton.mp mz]
      exact I1.ok.has _ (.inl hcy)
  show wpAny _ _ (evalAll [do let v ← eval (.Lambda params body scope lpos) X.env; standAt pos; pure v]) _ _ s1
  refine wpAny_evalAll_cons (wpAny_bind (lam_make2 I2 TB hcode hmT hu tabs hdef free fun f c' pm ctv H2 s2 I3 eN T2 hf hfn hfr hco => wpAny_bind (wpAny_standAt (wpAny_pure (wpAny_evalAll_nil ?_)))))
  show wpAny _ _ (call (.builtin "sorted") [.ref r] [(Str.ofString "key", .ref f)]) _ _ s2
  obtain ⟨o, ho⟩ : ∃ o, s1.heap.get? r = some o := ⟨_, hrg⟩
  have hr2 : IsRange s2.heap r 0 (ss.length : Nat) 1 t u v := by
    have hp := (I3.pin (r, o) (List.mem_append_right _ (List.mem_append_right _ (List.mem_filterMap.mpr ⟨r, ne, by rw [ho] <;> rfl⟩)))).1
    have e : s1.heap.get? r = _ := hrg
    rw [ho] at e
    cases e
    exact hp
  have row2 : Row H2 a ss := by
    obtain ⟨vs, hv, pv⟩ := row
    exact ⟨vs, eN _ _ hv (by intro ps z; cases z), Paired.imp (fun v s ⟨t, e, h⟩ => ⟨t, e, eN _ _ h (by intro ps z; cases z)⟩) pv⟩
  have beg := row_beg I3 row2
  obtain ⟨cy, hcl, hcell⟩ : ∃ cy, X.env.cells.lookup y = some cy ∧ s2.heap.IsCell cy (some (.ref a)) := by
    obtain ⟨m2, _, hl2⟩ := I3.loc
    obtain ⟨w2, r2, l2⟩ := hl2 iy y (.ref a) hN hσ hvy
    obtain rfl : w2 = .ref a := r2
    rcases l2 with ⟨k1, _⟩ | ⟨_, k2⟩
    · have k1 : X.env.scope.names.lookup y = some .local := k1
      rw [hcy] at k1
      cases k1
    · exact k2
  obtain ⟨⟨oc, cvs, ct, hoc, hdc, hvc⟩, _, _⟩ := I3.hok c' _ hco
  have hclo : cloFrom X.env.cells scope.names [] = [(y, cy)] := by
    rw [hsc]
    show [(y, (X.env.cells.lookup y).getD 0)] = _
    rw [hcl] <;> rfl
  rw [hclo] at hf
  have lx : scope.names.lookup x = some .local := by
    rw [hsc]
    simp [List.lookup]
  have ly : scope.names.lookup y = some .free := by
    rw [hsc]
    have : (y == x) = false := beq_false_of_ne (Ne.symm hxy)
    simp [List.lookup, this]
  refine sorted_key_rg (k := kf (begs ss)) (n := ss.length) (I3.ok.hd hcalm) hr2 hl (fun d md d' md' => ?_) (K.so _ _) (fun z _ => ?_) (fun i tv hi g tk kg => ?_) fun out c0 g tk D kg sz gD each => ?_
  · obtain ⟨z1, _, rfl⟩ := List.mem_map.mp md
    obtain ⟨z2, _, rfl⟩ := List.mem_map.mp md'
    exact K.al _ _ _
  · have := K.dp (begs ss) z
    have := hroom.units
    omega
  · refine key_call (s := { s2 with heap := g, toks := tk }) (x := x) ?_ (kg _ _ hf) (I3.nolimit.keeps kg) ⟨c', oc, cvs, ct, rfl, kg _ _ hoc, hdc, hvc⟩ kind co gen (fun z mz => ?_) lx (hbind _ _ _ _ _ _) fun h1 tk1 k1 hns => ?_
    · show X.A.depth < recursionLimit
      exact hroom.depth
    · rw [hsc] at mz
      rcases List.mem_cons.mp mz with e | mz
      · rw [e]
        intro z; cases z
      · rw [List.mem_singleton.mp mz]
        intro z; cases z
    · refine wpAny_mono (K.run X.prog X.w _ { s2 with heap := h1, toks := tk1 } _ cy a ss.length i (begs ss) _ tv kind ly (by simp [List.lookup]) (hcell.keeps fun b o e => k1 _ _ (kg _ _ e)) lx hns (by simp [List.lookup]) (beg.keeps fun b o e => k1 _ _ (kg _ _ e)) hi hl) (fun u2 s3 kp => ?_) fun _ _ z => z
      obtain ⟨h3, tk3, rfl, k3, rd⟩ := kp
      exact ⟨h3, tk3, rfl, fun b o e => k3 _ _ (k1 _ _ e), rd⟩
  · have ord := K.or (begs ss) ss.length
    generalize (List.range ss.length).mergeSort (dataLe false (kf (begs ss))) = os at ord each
    have I4 : Inv X pins σ H2 s2 := I3.unpinned
    have vals : Vals (os.map fun i => V.int (i : Nat)) out := by
      clear ord gD
      induction each with
      | nil => exact .nil
      | cons r1 rest ih =>
        obtain ⟨t1, rfl⟩ := r1
        exact .cons ⟨t1, rfl⟩ ih
    have nD : H2 D = none := I4.hok.fresh sz
    refine ⟨.ref D, upd H2 D (.lst (os.map fun i => V.int (i : Nat))), I4.laid kg sz ⟨?_, out, c0, vals, gD⟩, rfl, q H2 eN T2 D os ord nD⟩
    have := ord.perm.length_eq
    rw [List.length_map, this, List.length_range, sizeLine_eq]
    omega
end
end OB
/-! Stays given to numbers, by begins: the program's way and the law's. -/
namespace OM
def lastD (s : S3) : Int := s.2.1 + s.2.2
/-- numbers that are bound no more on day b -/
def freeP (bt : List Int) (b : Int) : List Nat := (List.range bt.length).filter fun k => decide (bt.getD k 0 < b)
def stepP (many : Int) (s : S3) (i : Nat) (x : List Int × List Int) : Option (List Int × List Int) := match freeP x.1 s.1 with
  | k :: _ => some (x.1.set k (lastD s), x.2.set i ((k : Nat) : Int))
  | [] => if ((x.1.length : Nat) : Int) < many then some (x.1 ++ [lastD s], x.2.set i ((x.1.length : Nat) : Int)) else none
def runP (ss : List S3) (many : Int) : List Nat → List Int × List Int → Option (List Int × List Int)
  | [], x => some x
  | i :: os, x => match ss[i]? with
    | none => none
    | some s => match stepP many s i x with
      | none => none
      | some y => runP ss many os y
def takenL (ss : List S3) (found : List (Option Nat)) (b : Int) : List Nat := (List.range ss.length).filterMap fun k => match found[k]?, ss[k]? with
  | some (some num), some s => if b ≤ lastD s then some num else none
  | _, _ => none
def freeL (ss : List S3) (found : List (Option Nat)) (b many : Int) : List Nat := (List.range many.toNat).filter fun k => decide (k ∉ takenL ss found b)
def runL (ss : List S3) (many : Int) : List Nat → List (Option Nat) → Option (List (Option Nat))
  | [], f => some f
  | i :: os, f => match ss[i]? with
    | none => none
    | some s => match freeL ss f s.1 many with
      | [] => none
      | k :: _ => runL ss many os (f.set i (some k))
theorem mem_taken {ss : List S3} {f : List (Option Nat)} {b : Int} {k : Nat} : k ∈ takenL ss f b ↔ ∃ (i : Nat) (s : S3), f[i]? = some (some k) ∧ ss[i]? = some s ∧ b ≤ lastD s := by
  unfold takenL
  rw [List.mem_filterMap]
  constructor
  · rintro ⟨i, _, h⟩
    split at h
    · rename_i num s h1 h2
      split at h
      · rename_i h3
        obtain rfl := Option.some.inj h
        exact ⟨i, s, h1, h2, h3⟩
      · cases h
    · cases h
  · rintro ⟨i, s, h1, h2, h3⟩
    refine ⟨i, List.mem_range.mpr (List.getElem?_eq_some_iff.mp h2).1, ?_⟩
    rw [h1, h2]
    simp [h3]
/-- what stands while stays are given -/
structure Giv (ss : List S3) (many : Int) (bt ns : List Int) (f : List (Option Nat)) : Prop where
  lf : f.length = ss.length
  ln : ns.length = ss.length
  no : ∀ (i k : Nat), f[i]? = some (some k) → ns[i]? = some ((k : Nat) : Int)
  le : ∀ (i k : Nat) (s : S3), f[i]? = some (some k) → ss[i]? = some s → k < bt.length ∧ lastD s ≤ bt.getD k 0
  ex : ∀ k : Nat, k < bt.length → ∃ (i : Nat) (s : S3), f[i]? = some (some k) ∧ ss[i]? = some s ∧ bt.getD k 0 = lastD s
  fit : ((bt.length : Nat) : Int) ≤ max many 0
theorem Giv.start (ss : List S3) (many : Int) : Giv ss many [] (ss.map fun _ => 0) (List.replicate ss.length none) := by
  refine ⟨by simp, by simp, fun i k h => ?_, fun i k s h => ?_, fun k h => absurd h (Nat.not_lt_zero k), by simp; omega⟩
  all_goals
    rw [List.getElem?_replicate] at h
    split at h <;> cases h
theorem taken_iff {ss : List S3} {many : Int} {bt ns : List Int} {f : List (Option Nat)} (g : Giv ss many bt ns f) {b : Int} {k : Nat} : k ∈ takenL ss f b ↔ k < bt.length ∧ b ≤ bt.getD k 0 := by
  rw [mem_taken]
  constructor
  · rintro ⟨i, s, h1, h2, h3⟩
    obtain ⟨a1, a2⟩ := g.le i k s h1 h2
    exact ⟨a1, Int.le_trans h3 a2⟩
  · rintro ⟨h1, h2⟩
    obtain ⟨i, s, a1, a2, a3⟩ := g.ex k h1
    exact ⟨i, s, a1, a2, by rw [← a3]; exact h2⟩
theorem head_filter {p : Nat → Bool} {n : Nat} {k : Nat} {r : List Nat} (h : (List.range n).filter p = k :: r) : k < n ∧ p k = true ∧ ∀ j, j < k → p j = false := by
  have e : ((List.range n).filter p).head? = some k := by rw [h] <;> rfl
  rw [List.head?_filter] at e
  have := List.find?_range_eq_some.mp e
  refine ⟨by simpa using this.2.1, this.1, fun j hj => by simpa using this.2.2 j hj⟩
theorem nil_filter {p : Nat → Bool} {n : Nat} (h : (List.range n).filter p = []) : ∀ j, j < n → p j = false := fun j hj => by
  have := List.filter_eq_nil_iff.mp h j (List.mem_range.mpr hj)
  simpa using this
/-- one stay more, given k -/
theorem Giv.put {ss : List S3} {many : Int} {bt ns bt' : List Int} {f : List (Option Nat)} {i k : Nat} {s : S3} (g : Giv ss many bt ns f) (gs : s.1 ≤ lastD s) (hs : ss[i]? = some s) (hf : f[i]? = some none)
    (h : (k < bt.length ∧ bt.getD k 0 < s.1 ∧ bt' = bt.set k (lastD s)) ∨ (k = bt.length ∧ ((bt.length : Nat) : Int) < many ∧ bt' = bt ++ [lastD s])) : Giv ss many bt' (ns.set i ((k : Nat) : Int)) (f.set i (some k)) := by
  have hi : i < f.length := by rw [g.lf]; exact (List.getElem?_eq_some_iff.mp hs).1
  have hin : i < ns.length := by rw [g.ln]; exact (List.getElem?_eq_some_iff.mp hs).1
  have len : bt.length ≤ bt'.length ∧ k < bt'.length ∧ bt'.length ≤ max bt.length (k + 1) := by
    rcases h with ⟨h1, _, rfl⟩ | ⟨h1, _, rfl⟩
    · rw [List.length_set]; omega
    · rw [List.length_append, List.length_singleton]; omega
  have atk : bt'.getD k 0 = lastD s := by
    rcases h with ⟨h1, _, rfl⟩ | ⟨h1, _, rfl⟩
    · simp [List.getD, h1]
    · rw [h1]; simp [List.getD]
  have oth : ∀ j, j ≠ k → j < bt.length → bt'.getD j 0 = bt.getD j 0 := fun j nj hj => by
    rcases h with ⟨h1, _, rfl⟩ | ⟨h1, _, rfl⟩
    · simp [List.getD, List.getElem?_set, Ne.symm nj]
    · simp [List.getD, List.getElem?_append_left hj]
  have at_ : ∀ j m, (f.set i (some k))[j]? = some (some m) → (j = i ∧ m = k) ∨ (j ≠ i ∧ f[j]? = some (some m)) := fun j m e => by
    by_cases z : j = i
    · subst z
      rw [List.getElem?_set_self hi] at e
      injection e with e
      injection e with e
      exact .inl ⟨rfl, e.symm⟩
    · rw [List.getElem?_set_ne (Ne.symm z)] at e
      exact .inr ⟨z, e⟩
  refine ⟨by rw [List.length_set, g.lf], by rw [List.length_set, g.ln], fun j m e => ?_, fun j m t e ht => ?_, fun m hm => ?_, ?_⟩
  · rcases at_ j m e with ⟨rfl, rfl⟩ | ⟨nj, e⟩
    · rw [List.getElem?_set_self hin]
    · rw [List.getElem?_set_ne (Ne.symm nj)]
      exact g.no j m e
  · rcases at_ j m e with ⟨rfl, rfl⟩ | ⟨nj, e⟩
    · rw [hs] at ht
      obtain rfl := Option.some.inj ht
      exact ⟨len.2.1, by rw [atk]; exact Int.le_refl _⟩
    · obtain ⟨a1, a2⟩ := g.le j m t e ht
      refine ⟨by omega, ?_⟩
      by_cases z : m = k
      · subst z
        rw [atk]
        rcases h with ⟨h1, h2, _⟩ | ⟨h1, _, _⟩
        · omega
        · omega
      · rw [oth m z a1]
        exact a2
  · by_cases z : m = k
    · subst z
      exact ⟨i, s, List.getElem?_set_self hi, hs, atk⟩
    · have hm2 : m < bt.length := by
        rcases h with ⟨h1, _, rfl⟩ | ⟨h1, _, rfl⟩
        · rw [List.length_set] at hm; exact hm
        · rw [List.length_append, List.length_singleton] at hm; omega
      obtain ⟨j, t, a1, a2, a3⟩ := g.ex m hm2
      have nj : j ≠ i := fun y => by
        rw [y, hf] at a1
        cases a1
      exact ⟨j, t, by rw [List.getElem?_set_ne (Ne.symm nj)]; exact a1, a2, by rw [oth m z hm2]; exact a3⟩
  · have := g.fit
    rcases h with ⟨h1, _, rfl⟩ | ⟨h1, h2, rfl⟩
    · rw [List.length_set]; exact this
    · rw [List.length_append, List.length_singleton]; omega
/-- one step: the same number, or none both -/
theorem Giv.step {ss : List S3} {many : Int} {bt ns : List Int} {f : List (Option Nat)} {i : Nat} {s : S3} (g : Giv ss many bt ns f) (gs : s.1 ≤ lastD s) (hs : ss[i]? = some s) (hf : f[i]? = some none) :
    (∃ (k : Nat) (r : List Nat) (bt' : List Int), freeL ss f s.1 many = k :: r ∧ stepP many s i (bt, ns) = some (bt', ns.set i ((k : Nat) : Int)) ∧ Giv ss many bt' (ns.set i ((k : Nat) : Int)) (f.set i (some k)) ∧ (∀ (j : Nat) (t : S3), f[j]? = some (some k) → ss[j]? = some t → lastD t < s.1)) ∨
    (freeL ss f s.1 many = [] ∧ stepP many s i (bt, ns) = none ∧ ∀ k : Nat, (k : Int) < many → ∃ (j : Nat) (t : S3), f[j]? = some (some k) ∧ ss[j]? = some t ∧ s.1 ≤ lastD t) := by
  have old : ∀ k j t, (k ∉ takenL ss f s.1) → f[j]? = some (some k) → ss[j]? = some t → lastD t < s.1 := fun k j t h a b => by
    rcases Int.lt_or_le (lastD t) s.1 with z | z
    · exact z
    · exact absurd (mem_taken.mpr ⟨j, t, a, b, z⟩) h
  cases hp : freeP bt s.1 with
  | cons k r =>
    obtain ⟨h1, h2, h3⟩ := head_filter hp
    have h2 := of_decide_eq_true h2
    have nt : k ∉ takenL ss f s.1 := fun m => by
      have := (taken_iff g).mp m
      omega
    cases hl : freeL ss f s.1 many with
    | nil =>
      exfalso
      have z := nil_filter hl k (by have := g.fit; omega)
      exact absurd nt (of_decide_eq_false z)
    | cons k2 r2 =>
      obtain ⟨l1, l2, l3⟩ := head_filter hl
      have l2 := of_decide_eq_true l2
      have e : k2 = k := by
        rcases Nat.lt_trichotomy k2 k with z | z | z
        · have y := h3 k2 z
          exact absurd ((taken_iff g).mpr ⟨by omega, by have := of_decide_eq_false y; omega⟩) l2
        · exact z
        · have y := l3 k z
          exact absurd nt (of_decide_eq_false y)
      subst e
      refine .inl ⟨k2, r2, _, rfl, ?_, g.put gs hs hf (.inl ⟨h1, h2, rfl⟩), fun j t => old k2 j t nt⟩
      unfold stepP
      rw [hp]
  | nil =>
    have full : ∀ k, k < bt.length → s.1 ≤ bt.getD k 0 := fun k hk => by
      have := of_decide_eq_false (nil_filter hp k hk)
      omega
    by_cases c : ((bt.length : Nat) : Int) < many
    · have nt : bt.length ∉ takenL ss f s.1 := fun m => by
        have := (taken_iff g).mp m
        omega
      cases hl : freeL ss f s.1 many with
      | nil =>
        exfalso
        have z := nil_filter hl bt.length (by omega)
        exact absurd nt (of_decide_eq_false z)
      | cons k2 r2 =>
        obtain ⟨l1, l2, l3⟩ := head_filter hl
        have l2 := of_decide_eq_true l2
        have e : k2 = bt.length := by
          rcases Nat.lt_trichotomy k2 bt.length with z | z | z
          · exact absurd ((taken_iff g).mpr ⟨z, full k2 z⟩) l2
          · exact z
          · have y := l3 bt.length z
            exact absurd nt (of_decide_eq_false y)
        subst e
        refine .inl ⟨bt.length, r2, _, rfl, ?_, g.put gs hs hf (.inr ⟨rfl, c, rfl⟩), fun j t => old _ j t nt⟩
        unfold stepP
        rw [hp]
        exact if_pos c
    · refine .inr ⟨?_, ?_, fun k hk => ?_⟩
      · unfold freeL
        rw [List.filter_eq_nil_iff]
        intro k mk
        have hk := List.mem_range.mp mk
        have : k ∈ takenL ss f s.1 := (taken_iff g).mpr ⟨by omega, full k (by omega)⟩
        simpa using this
      · unfold stepP
        rw [hp]
        exact if_neg c
      · obtain ⟨j, t, a1, a2, a3⟩ := g.ex k (by omega)
        exact ⟨j, t, a1, a2, by rw [← a3]; exact full k (by omega)⟩
end OM
namespace OM
theorem nodup_le : ∀ {xs ys : List Nat}, xs.Nodup → (∀ x ∈ xs, x ∈ ys) → xs.length ≤ ys.length
  | [], _, _, _ => Nat.zero_le _
  | x :: xs, ys, nd, h => by
    obtain ⟨n1, n2⟩ := List.nodup_cons.mp nd
    have m := h x (List.mem_cons_self ..)
    have ih := nodup_le (xs := xs) (ys := ys.erase x) n2 fun z mz => (List.mem_erase_of_ne (fun e => n1 (by rw [← e]; exact mz))).mpr (h z (List.mem_cons_of_mem _ mz))
    rw [List.length_erase_of_mem m] at ih
    have : 0 < ys.length := List.length_pos_of_mem m
    rw [List.length_cons]
    omega
/-- the indexes of stays bound on a day -/
def onDay (ss : List S3) (d : Int) : List Nat := (List.range ss.length).filter fun i => match ss[i]? with
  | some s => decide (s.1 ≤ d) && decide (d ≤ lastD s)
  | none => false
theorem mem_onDay {ss : List S3} {d : Int} {i : Nat} : i ∈ onDay ss d ↔ ∃ s, ss[i]? = some s ∧ s.1 ≤ d ∧ d ≤ lastD s := by
  unfold onDay
  rw [List.mem_filter, List.mem_range]
  constructor
  · rintro ⟨_, h⟩
    cases e : ss[i]? with
    | none => rw [e] at h; cases h
    | some s =>
      rw [e] at h
      simp only [Bool.and_eq_true, decide_eq_true_eq] at h
      exact ⟨s, rfl, h.1, h.2⟩
  · rintro ⟨s, e, h1, h2⟩
    refine ⟨(List.getElem?_eq_some_iff.mp e).1, ?_⟩
    rw [e]
    simp [h1, h2]
theorem onDay_len : ∀ (ss : List S3) (d : Int), (onDay ss d).length = cB (spans ss) d
  | [], d => rfl
  | s :: ss, d => by
    have ih := onDay_len ss d
    unfold onDay at ih ⊢
    rw [List.length_cons, List.range_succ_eq_map, List.filter_cons, List.filter_map]
    have e : ((fun i => match (s :: ss)[i]? with
      | some s => decide (s.1 ≤ d) && decide (d ≤ lastD s)
      | none => false) ∘ Nat.succ) = fun i => match ss[i]? with
      | some s => decide (s.1 ≤ d) && decide (d ≤ lastD s)
      | none => false := by
      funext i
      show (match (s :: ss)[i + 1]? with
        | some s => decide (s.1 ≤ d) && decide (d ≤ lastD s)
        | none => false) = _
      rw [List.getElem?_cons_succ]
    rw [e]
    unfold cB spans at ih ⊢
    rw [List.map_cons, List.countP_cons]
    show (if (decide (s.1 ≤ d) && decide (d ≤ lastD s)) = true then _ else _ : List Nat).length = _ + if (decide (s.1 ≤ d) && decide (d ≤ s.2.1 + s.2.2)) = true then 1 else 0
    unfold lastD at ih ⊢
    split
    · rw [List.length_cons, List.length_map, ih]
    · rw [List.length_map, ih]
      omega
def Apart (ss : List S3) (f : List (Option Nat)) : Prop := ∀ (i j k : Nat) (s t : S3), i ≠ j → f[i]? = some (some k) → f[j]? = some (some k) → ss[i]? = some s → ss[j]? = some t → lastD s < t.1 ∨ lastD t < s.1
theorem apart_put {ss : List S3} {f : List (Option Nat)} {i k : Nat} {s : S3} (a : Apart ss f) (hi : i < f.length) (hs : ss[i]? = some s) (h : ∀ (j : Nat) (t : S3), f[j]? = some (some k) → ss[j]? = some t → lastD t < s.1) : Apart ss (f.set i (some k)) := by
  have at_ : ∀ (j m : Nat), (f.set i (some k))[j]? = some (some m) → (j = i ∧ m = k) ∨ (j ≠ i ∧ f[j]? = some (some m)) := fun j m e => by
    by_cases z : j = i
    · subst z
      rw [List.getElem?_set_self hi] at e
      injection e with e
      injection e with e
      exact .inl ⟨rfl, e.symm⟩
    · rw [List.getElem?_set_ne (Ne.symm z)] at e
      exact .inr ⟨z, e⟩
  intro p q m u v pq hp hq hu hv
  rcases at_ p m hp with ⟨rfl, rfl⟩ | ⟨n1, e1⟩
  · rcases at_ q m hq with ⟨rfl, _⟩ | ⟨n2, e2⟩
    · exact absurd rfl pq
    · rw [hs] at hu
      obtain rfl := Option.some.inj hu
      exact .inr (h q v e2 hv)
  · rcases at_ q m hq with ⟨rfl, rfl⟩ | ⟨n2, e2⟩
    · rw [hs] at hv
      obtain rfl := Option.some.inj hv
      exact .inl (h p u e1 hu)
    · exact a p q m u v pq e1 e2 hu hv
/-- a whole giving below many: no day has more than many -/
theorem few_bound {ss : List S3} {many : Nat} {f : List (Option Nat)} (a : Apart ss f) (all : ∀ i, i < ss.length → ∃ k : Nat, f[i]? = some (some k) ∧ k < many) (d : Int) : cB (spans ss) d ≤ many := by
  rw [← onDay_len]
  have nd : (onDay ss d).Nodup := (List.nodup_range).sublist List.filter_sublist
  have pw : (onDay ss d).Pairwise (fun i j => ((f[i]?.getD none).getD 0) ≠ ((f[j]?.getD none).getD 0)) := by
    rw [List.pairwise_iff_forall_sublist]
    intro i j sub e
    have ne : i ≠ j := List.pairwise_iff_forall_sublist.mp nd sub
    have mi := mem_onDay.mp (sub.subset (by simp : i ∈ [i, j]))
    have mj := mem_onDay.mp (sub.subset (by simp : j ∈ [i, j]))
    obtain ⟨s, hs, s1, s2⟩ := mi
    obtain ⟨t, ht, t1, t2⟩ := mj
    obtain ⟨k, hk, _⟩ := all i (List.getElem?_eq_some_iff.mp hs).1
    obtain ⟨m, hm, _⟩ := all j (List.getElem?_eq_some_iff.mp ht).1
    rw [hk, hm] at e
    have e : k = m := e
    subst e
    rcases a i j k s t ne hk hm hs ht with z | z <;> omega
  have nd2 : ((onDay ss d).map fun i => ((f[i]?.getD none).getD 0)).Nodup := by
    rw [List.nodup_iff_pairwise_ne, List.pairwise_map]
    exact pw
  have := nodup_le (ys := List.range many) nd2 fun x mx => by
    obtain ⟨i, mi, rfl⟩ := List.mem_map.mp mx
    obtain ⟨s, hs, _, _⟩ := mem_onDay.mp mi
    obtain ⟨k, hk, lk⟩ := all i (List.getElem?_eq_some_iff.mp hs).1
    rw [hk]
    exact List.mem_range.mpr lk
  rw [List.length_map, List.length_range] at this
  exact this
/-- where none is left, more are bound -/
theorem too_many {ss : List S3} {many : Int} {f : List (Option Nat)} {i : Nat} {s : S3} (hs : ss[i]? = some s) (gs : s.1 ≤ lastD s) (hf : f[i]? = some none) (ahead : ∀ (j : Nat) (t : S3) (k : Nat), f[j]? = some (some k) → ss[j]? = some t → t.1 ≤ s.1)
    (full : ∀ k : Nat, (k : Int) < many → ∃ (j : Nat) (t : S3), f[j]? = some (some k) ∧ ss[j]? = some t ∧ s.1 ≤ lastD t) : many < cB (spans ss) s.1 := by
  rw [← onDay_len]
  have pick : ∀ k : Nat, k < many.toNat → ∃ j : Nat, f[j]? = some (some k) ∧ j ∈ onDay ss s.1 := fun k hk => by
    obtain ⟨j, t, a1, a2, a3⟩ := full k (by omega)
    exact ⟨j, a1, mem_onDay.mpr ⟨t, a2, ahead j t k a1 a2, a3⟩⟩
  have key : ∀ n, n ≤ many.toNat → ∃ js : List Nat, js.length = n ∧ js.Nodup ∧ (∀ j ∈ js, j ∈ onDay ss s.1) ∧ ∀ j ∈ js, ∃ k : Nat, k < n ∧ f[j]? = some (some k) := fun n => by
    induction n with
    | zero => exact fun _ => ⟨[], rfl, List.nodup_nil, (fun j m => by cases m), fun j m => by cases m⟩
    | succ n ih =>
      intro hn
      obtain ⟨js, l, nd, on, nums⟩ := ih (by omega)
      obtain ⟨j, hj, mj⟩ := pick n (by omega)
      refine ⟨j :: js, by rw [List.length_cons, l], List.nodup_cons.mpr ⟨fun m => ?_, nd⟩, fun x m => ?_, fun x m => ?_⟩
      · obtain ⟨k, hk, e⟩ := nums j m
        rw [hj] at e
        injection e with e
        injection e with e
        omega
      · rcases List.mem_cons.mp m with z | z
        · rw [z]; exact mj
        · exact on x z
      · rcases List.mem_cons.mp m with z | z
        · rw [z]; exact ⟨n, by omega, hj⟩
        · obtain ⟨k, hk, e⟩ := nums x z
          exact ⟨k, by omega, e⟩
  obtain ⟨js, l, nd, on, nums⟩ := key many.toNat (Nat.le_refl _)
  have ni : i ∉ js := fun m => by
    obtain ⟨k, _, e⟩ := nums i m
    rw [hf] at e
    cases e
  have sub : ∀ x ∈ i :: js, x ∈ onDay ss s.1 := fun x m => by
    rcases List.mem_cons.mp m with z | z
    · rw [z]
      exact mem_onDay.mpr ⟨s, hs, Int.le_refl _, gs⟩
    · exact on x z
  have := nodup_le (List.nodup_cons.mpr ⟨ni, nd⟩) sub
  rw [List.length_cons, l] at this
  omega
end OM
namespace OB
open PySem PySem.Spec PyProof.Rows L2 LamX
def qBy : Str := "by_begins.<locals>.<lambda>"
def qOrd : Str := "_law_order.<locals>.<lambda>"
/-- the indexes of stays, by begins, then by indexes -/
def spBy (T : List (Addr × Str)) : Sp := fun vs H Q _ => ∃ (a : Addr) (ss : List S3), vs = [.ref a] ∧ Row H a ss ∧ ss.length ≤ 1000 ∧ Tabs T H ∧ ∀ H2, ExtN H H2 → Tabs T H2 → ∀ D os, OM.Order (begs ss) ss.length os → H2 D = none → Q (.ref D) (upd H2 D (.lst (os.map fun i => V.int (i : Nat))))
section
variable {P : Program} {w : World} {K : PySem.W.Frag} {mg : Str → Option Value} {base : Heap}
end
end OB
namespace OB
open PySem PySem.Spec PyProof.Rows L2 LamX
def Ng : List Str := ["stays", "many", "told", "bound_to", "numbers", "index", "begin", "end", "life", "free", "stay", "number", "last"]
def zeros (ss : List S3) : List Int := ss.map fun _ => 0
def spGiving (TT : List (Addr × Str)) (K : PySem.W.Frag) (CS CM : Addr) : Sp := fun vs H Q E => ∃ (v m : V) (k : Kd) (r : Nat ⊕ List S3), vs = [v, m] ∧ ArgS K H v r ∧ Any K H m k ∧ (∀ i, r = .inl i → Bad E H CS "index" (.int (i : Nat))) ∧ ∀ ss, r = .inr ss → ss.length ≤ 100 ∧ (numV m = false → Bad E H CM "many" m) ∧
  (∀ n, m = .int n → 0 ≤ n → Tabs TT H ∧ ∀ H' os, OM.Order (begs ss) ss.length os → ExtN H H' → Tabs TT H' → (OM.runP ss n os ([], zeros ss) = none → Q .non H') ∧ (∀ x D, OM.runP ss n os ([], zeros ss) = some x → H D = none → H' D = some (.lst (x.2.map V.int)) → Q (.ref D) H'))
/-- all but two lists -/
def But2 (B N : Addr) (H H' : Hp) : Prop := ∀ b o, b ≠ B → b ≠ N → H b = some o → H' b = some o
theorem But2.same {B N : Addr} {H H1 H2 : Hp} (a : But2 B N H H1) (e : Same H1 H2) : But2 B N H H2 := fun b o n1 n2 h => e _ _ (a b o n1 n2 h)
theorem But2.putB {B N : Addr} {H H1 : Hp} {u : HO} (a : But2 B N H H1) : But2 B N H (upd H1 B u) := fun b o n1 n2 h => by rw [upd_ne n1]; exact a b o n1 n2 h
theorem But2.putN {B N : Addr} {H H1 : Hp} {u : HO} (a : But2 B N H H1) : But2 B N H (upd H1 N u) := fun b o n1 n2 h => by rw [upd_ne n2]; exact a b o n1 n2 h
theorem But2.tabs {T : List (Addr × Str)} {B N : Addr} {H H' : Hp} {xs ys : List V} (t : Tabs T H) (hB : H B = some (.lst xs)) (hN : H N = some (.lst ys)) (b : But2 B N H H') : Tabs T H' := fun y hy => by
  obtain ⟨ps, h1, h2, h3⟩ := t y hy
  refine ⟨ps, b _ _ (ne_of h1 hB (by intro z; cases z)) (ne_of h1 hN (by intro z; cases z)) h1, h2, fun pos cv hc => ?_⟩
  obtain ⟨c, e1, e2⟩ := h3 pos cv hc
  exact ⟨c, e1, b _ _ (ne_of e2 hB (by intro z; unfold CodeO at z; cases z)) (ne_of e2 hN (by intro z; unfold CodeO at z; cases z)) e2⟩
theorem ixN_nat {n k : Nat} (h : k < n) : ixN n ((k : Nat) : Int) = some k := by
  unfold ixN
  rw [if_pos (by omega), if_pos (by omega)]
  simp
theorem map_set_int (ns : List Int) (k : Nat) (x : Int) : (ns.map V.int).set k (.int x) = (ns.set k x).map V.int := by
  rw [List.map_set]
section
variable {P : Program} {w : World} {K : PySem.W.Frag} {mg : Str → Option Value} {base : Heap}
end
end OB
/-! The first day on which more than so many are bound. -/
namespace OM
def fullD (ps : List (Int × Int)) (n : Int) : Option Int := ((ps.map Prod.fst).filter fun d => decide (n < cB ps d)).min?
def above (bs : List Int) (ps : List (Int × Int)) (n : Int) : List Int := ((counts bs ps).filter fun c => decide (n < c.2)).map Prod.fst
theorem fullD_eq {bs : List Int} {ps : List (Int × Int)} {n : Int} (hp : ∀ p ∈ ps, p.1 ≤ p.2) (pm : bs.Perm (ps.map Prod.fst)) (s : bs.Pairwise (· ≤ ·)) : (above bs ps n).head? = fullD ps n := by
  have le : ∀ d, cLe d bs = cLe d (ps.map Prod.fst) := fun d => pm.countP_eq _
  have hl : (counts bs ps).length = bs.length := by unfold counts; simp
  have inn : ∀ d, d ∈ above bs ps n → d ∈ ps.map Prod.fst ∧ n < cB ps d := fun d m => by
    unfold above at m
    obtain ⟨y, m1, rfl⟩ := List.mem_map.mp m
    obtain ⟨m1, m3⟩ := List.mem_filter.mp m1
    obtain ⟨i, hi, hy⟩ := List.getElem_of_mem m1
    rw [hl] at hi
    have z := counts_at (ps := ps) (List.getElem?_eq_getElem hi)
    rw [List.getElem?_eq_getElem (by omega), hy] at z
    obtain rfl := Option.some.inj z
    have m2 : bs[i] ∈ ps.map Prod.fst := pm.mem_iff.mp (List.getElem_mem hi)
    have e := cB_eq (d := bs[i]) hp
    have g := (sorted_le s i hi).mp (Int.le_refl bs[i])
    rw [le] at g
    have m3 : n < (i : Int) + 1 - cLt bs[i] (ps.map Prod.snd) := of_decide_eq_true m3
    exact ⟨m2, by show n < (cB ps bs[i] : Int); omega⟩
  have out : ∀ d, d ∈ ps.map Prod.fst → n < cB ps d → d ∈ above bs ps n := fun d m h => by
    have mb : d ∈ bs := pm.mem_iff.mpr m
    obtain ⟨k, hk, ek⟩ := List.getElem_of_mem mb
    have k1 := (sorted_le (d := d) s k hk).mp (by rw [ek]; exact Int.le_refl _)
    have lc : cLe d bs ≤ bs.length := List.countP_le_length
    have hi : cLe d bs - 1 < bs.length := by omega
    have i1 := (sorted_le (d := d) s _ hi).mpr (by omega)
    have i2 : bs[k] ≤ bs[cLe d bs - 1] := by
      rcases Nat.lt_or_eq_of_le (show k ≤ cLe d bs - 1 by omega) with z | z
      · exact List.pairwise_iff_getElem.mp s _ _ hk hi z
      · simp [← z]
    have e1 : bs[cLe d bs - 1] = d := by omega
    have z := counts_at (ps := ps) (List.getElem?_eq_getElem hi)
    rw [e1] at z
    have m3 := List.mem_of_getElem? z
    have e := cB_eq (d := d) hp
    rw [← le] at e
    unfold above
    refine List.mem_map.mpr ⟨_, List.mem_filter.mpr ⟨m3, decide_eq_true ?_⟩, rfl⟩
    show n < ((cLe d bs - 1 : Nat) : Int) + 1 - cLt d (ps.map Prod.snd)
    omega
  have srt : (above bs ps n).Pairwise (· ≤ ·) := by
    have e : (counts bs ps).map Prod.fst = bs := by
      refine List.ext_getElem? fun i => ?_
      rw [List.getElem?_map]
      cases h : bs[i]? with
      | none =>
        have : (counts bs ps)[i]? = none := by
          rw [List.getElem?_eq_none_iff] at h ⊢
          omega
        rw [this] <;> rfl
      | some d => rw [counts_at h] <;> rfl
    have sub : (above bs ps n).Sublist ((counts bs ps).map Prod.fst) := List.filter_sublist.map _
    rw [e] at sub
    exact s.sublist sub
  unfold fullD
  cases h : above bs ps n with
  | nil =>
    have : ((ps.map Prod.fst).filter fun d => decide (n < cB ps d)) = [] := by
      rw [List.filter_eq_nil_iff]
      intro d m c
      have := out d m (of_decide_eq_true c)
      rw [h] at this
      cases this
    rw [this] <;> rfl
  | cons d r =>
    rw [h] at inn srt
    obtain ⟨m1, m2⟩ := inn d (List.mem_cons_self ..)
    refine (List.min?_eq_some_iff.mpr ⟨List.mem_filter.mpr ⟨m1, decide_eq_true m2⟩, fun x mx => ?_⟩).symm
    obtain ⟨x1, x2⟩ := List.mem_filter.mp mx
    have mo := out x x1 (of_decide_eq_true x2)
    rw [h] at mo
    rcases List.mem_cons.mp mo with z | z
    · rw [z]; exact Int.le_refl _
    · exact (List.pairwise_cons.mp srt).1 x z
end OM
namespace OB
open PySem PySem.Spec PyProof.Rows L2
abbrev sAbove : Stmt := top 14
abbrev sFull : Stmt := top 23
def dayV (o : Option Int) : V := match o with
  | some i => .int i
  | none => .non
def upto (cs : List (Int × Int)) (n : Int) : List Int := (cs.filter fun c => decide (n < c.2)).map Prod.fst
theorem upto_step {cs : List (Int × Int)} {n : Int} {i : Nat} {p : Int × Int} (h : cs[i]? = some p) : upto (cs.take (i + 1)) n = upto (cs.take i) n ++ (if n < p.2 then [p.1] else []) := by
  unfold upto
  rw [List.take_add_one, h, List.filter_append, List.map_append]
  congr 1
  by_cases y : n < p.2
  · rw [if_pos y]
    simp [y]
  · rw [if_neg y]
    simp [y]
theorem upto_len {cs : List (Int × Int)} {n : Int} {i : Nat} (h : cs.length ≤ 5000) : ((upto (cs.take i) n).map V.int).length < sizeLine := by
  unfold upto
  have := List.length_filter_le (fun p : Int × Int => decide (n < p.2)) (cs.take i)
  have : (cs.take i).length ≤ 5000 := by rw [List.length_take]; omega
  rw [List.length_map, List.length_map, sizeLine_eq]
  omega
def spAbove : Sp := fun vs H Q _ => ∃ (a : Addr) (ps : List (Int × Int)) (n : Int), vs = [.ref a, .int n] ∧ PRow H a ps ∧ ps.length ≤ 1000 ∧ (∀ p ∈ ps, p.1 ≤ p.2) ∧ ∀ H', Same H H' → Q (dayV (OM.fullD ps n)) H'
def spFull (K : PySem.W.Frag) (CS CM : Addr) : Sp := fun vs H Q E => ∃ (v m : V) (k : Kd) (r : Nat ⊕ List S3), vs = [v, m] ∧ ArgS K H v r ∧ Any K H m k ∧ (∀ i, r = .inl i → Bad E H CS "index" (.int (i : Nat))) ∧ ∀ ss, r = .inr ss → (numV m = false → Bad E H CM "many" m) ∧
  (∀ n, m = .int n → 0 ≤ n → ∀ H', Same H H' → Q (dayV (OM.fullD (OM.spans ss) n)) H')
def spLFull : Sp := fun vs H Q _ => ∃ (a : Addr) (ss : List S3) (n : Int), vs = [.ref a, .int n] ∧ Row H a ss ∧ ss.length ≤ 1000 ∧ ∀ H', Same H H' → Q (dayV (OM.fullD (OM.spans ss) n)) H'
section
variable {P : Program} {w : World} {K : PySem.W.Frag} {mg : Str → Option Value} {base : Heap}
theorem scAbove : FnScope ["spans", "limit", "days", "day", "many"] ["spans", "limit"] (defScope sAbove) := ⟨rfl, rfl, rfl, by decide +kernel, rfl, by decide +kernel, by decide +kernel⟩
theorem ok_above {f fC : Addr} {fd fdC : FuncData} (F : Fun K "first_day_above" "first_day_above" sAbove f fd)
    (GC : FnOk P w K mg base CX0 1 fC fdC ["spans"] spCounts) (gC : mg "counts_at_begins" = some (.ref fC)) (kC : PySem.W.keepIn K (.ref fC) = true) (bC : Binds K fdC ["spans"] []) : FnOk P w K mg base CX0 2 f fd ["spans", "limit"] spAbove := by
  refine F.ok scAbove (fun vs H Q E h => ?_) (fun cdv A outer s H vs Q E hr h => ?_)
  · obtain ⟨a, ps, n, rfl, _⟩ := h
    rfl
  · obtain ⟨a, ps, n, rfl, hp, hl, hok, q⟩ := h
    have nd := scAbove.nd
    refine ⟨_, pss_cons (ps_setLc (i := 2) (own := [("day", 3), ("many", 4)]) (g := gTup K 2 (gCons (gName 3) (gCons (gName 4) gNil))) (tt := fun σ H Q => tTest (tOp (rI0 fun i j => .bl (decide (j < i))) (tVar 4) (tVar 1)) σ H Q) rfl nd rfl rfl (sw_true rfl rfl rfl (by decide +kernel)) (pi_list (pe_call GC hr (by rfl) gC kC bC .nil pass0 (pa_cons (pv 0) pa_nil)))
          (blkOk_by (N := ["spans", "limit", "days", "day", "many"]) (sc := defScope sAbove) (by decide +kernel)) (fun _ _ _ _ _ => pg_tup rfl (pgs_cons (pg_name (i := 3) nd rfl (Or.inl rfl)) (pgs_cons (pg_name (i := 4) nd rfl (Or.inl rfl)) pgs_nil))) (fun _ _ _ _ _ => pts_one (pt_cmpR op_gt (pv 4) (pv 1) (nomark _))) (fun _ _ _ _ _ => pv 3))
      (pss_one (ps_ret (pe_ifExp (pt_truth (pv 2) (by intro _; rfl)) (pe_ix ix_list (pv 2) pe_int (fun _ _ => rfl)) pe_non))), ?_⟩
    refine ⟨_, rfl, a, ps, rfl, hp, hl, hok, fun H1 D1 bs pb sb e1 n1 hr1 => ?_⟩
    obtain ⟨us, hu, pu⟩ := hr1
    have ll := pu.length
    have lc : (OM.counts bs ps).length = bs.length := by unfold OM.counts; simp
    have lb : bs.length = ps.length := by rw [pb.length_eq, List.length_map]
    refine ⟨D1, rfl, ⟨_, SqL.of hu⟩, fun F nF => ?_⟩
    have e : upto (OM.counts bs ps) n = OM.above bs ps n := rfl
    have key := OM.fullD_eq (n := n) hok pb sb
    rw [← e] at key
    generalize OM.counts bs ps = st at pu ll lc key
    refine lc_it (walk_list (xs := us)) (AccP F H1 (fun i => (upto (st.take i) n).map V.int)) (acc_start rfl) (fun i G _ z => Same.seq (acc_same z (Same.refl H1) nF) (SqL.of hu)) (fun i x G G' hi z y => ?_) (fun G z => ?_)
    · obtain ⟨rfl, hx⟩ := y
      obtain ⟨p, hpp, t, rfl, ht⟩ := Paired.at pu hx
      refine ⟨t, _, rfl, SqT.of (acc_same z (Same.refl H1) nF _ _ ht), rfl, .int p.1, _, rfl, .int p.2, _, rfl, rfl, rfl, ?_⟩
      refine ⟨_, rfl, _, rfl, p.2, n, rfl, rfl, _, rfl, ?_⟩
      have step := upto_step (n := n) hpp
      have ol := upto_len (cs := st) (n := n) (i := i) (by omega)
      refine ite2 (fun h => ?_) (fun h => ?_)
      · rw [if_pos (of_decide_eq_true h)] at step
        exact ⟨_, rfl, acc_in z (Same.refl _) ol (by show (upto _ n).map V.int = _; rw [step, List.map_append] <;> rfl)⟩
      · rw [if_neg (fun y => h (decide_eq_true y)), List.append_nil] at step
        exact acc_out z (Same.refl _) (by show (upto _ n).map V.int = _; rw [step])
    · have gF : G F = some (.lst ((upto st n).map V.int)) := by
        have this : G F = some (.lst ((upto (st.take us.length) n).map V.int)) := z.2
        rw [ll, List.take_length] at this
        exact this
      have eG : Same H G := e1.trans (acc_same z (Same.refl H1) nF)
      have q := q G eG
      rw [← key] at q
      refine ⟨_, rfl, _, .inl ⟨_, SqL.of gF, rfl⟩, ?_⟩
      cases hp : upto st n with
      | nil =>
        rw [hp] at q
        exact iteF q
      | cons d r =>
        rw [hp] at q gF
        exact iteT ⟨_, rfl, F, _, ((0 : Nat) : Int), .int d, rfl, rfl, SqL.of gF, atI_nat rfl, q⟩
theorem scFull : FnScope ["stays", "many", "told"] ["stays", "many"] (defScope sFull) := ⟨rfl, rfl, rfl, by decide +kernel, rfl, by decide +kernel, by decide +kernel⟩
theorem ok_full {f fD fB fM fT CS CM : Addr} {fd fdD fdB fdM fdT : FuncData} (F : Fun K "full_day" "full_day" sFull f fd)
    (GD : FnOk P w K mg base CX0 2 fD fdD ["spans", "limit"] spAbove) (gD : mg "first_day_above" = some (.ref fD)) (kD : PySem.W.keepIn K (.ref fD) = true) (bD : Binds K fdD ["spans", "limit"] [])
    (GB : FnOk P w K mg base CX0 1 fB fdB ["stays"] spBound) (gB : mg "bound_spans" = some (.ref fB)) (kB : PySem.W.keepIn K (.ref fB) = true) (bB : Binds K fdB ["stays"] [])
    (GM : FnOk P w K mg base (L2.CX P w) 3 fM fdM ["many"] (spNum K CM "many")) (gM : mg "check_many" = some (.ref fM)) (kM : PySem.W.keepIn K (.ref fM) = true) (bM : Binds K fdM ["many"] [])
    (GT : FnOk P w K mg base (L2.CX P w) 5 fT fdT ["stays"] (spTold K CS)) (gT : mg "told_stays" = some (.ref fT)) (kT : PySem.W.keepIn K (.ref fT) = true) (bT : Binds K fdT ["stays"] []) : FnOk P w K mg base (L2.CX P w) 6 f fd ["stays", "many"] (spFull K CS CM) := by
  refine F.okX scFull (fun vs H Q E h => ?_) (fun cdv A outer s H vs Q E hr h => ?_)
  · obtain ⟨v, m, k, r, rfl, _⟩ := h
    rfl
  · obtain ⟨v, m, k, r, rfl, ha, hm, hb, q⟩ := h
    have nd := scFull.nd
    have hr3 := hr.mono (show 3 ≤ 5 by decide)
    refine ⟨_, pss_cons (ps_set (i := 2) nd rfl (Or.inl rfl) (pe_callS GT hr (by rfl) gT kT bT (fun σ => passAt (takes_of rfl rfl rfl rfl) σ) (pa_cons (pv 0) pa_nil)))
      (pss_cons (ps_expr (pe_callS GM hr3 (by rfl) gM kM bM (fun σ => passAt (takes_of rfl rfl rfl rfl) σ) (pa_cons (pv 1) pa_nil)))
      (pss_one (ps_ret (pe_call GD (hr.mono (show 2 ≤ 5 by decide)) (by rfl) gD kD bD .nil pass0 (pa_cons (pe_call GB (hr.mono (show 1 ≤ 5 by decide)) (by rfl) gB kB bB .nil pass0 (pa_cons (pv 2) pa_nil)) (pa_cons (pv 1) pa_nil)))))), ?_⟩
    refine ⟨_, rfl, ?_⟩
    dsimp only [tNil]
    refine told_arg (E := E) ha hb fun ss er H1 D e1 nD row => ?_
    subst er
    obtain ⟨q1, q2⟩ := q ss rfl
    obtain ⟨g, l⟩ := ha.good
    refine ⟨_, rfl, m, k, rfl, hm.same e1, fun z => (q1 z).same e1, fun z H2 e2 => ?_⟩
    obtain ⟨n, rfl, n0⟩ : ∃ n : Int, m = .int n ∧ 0 ≤ n := by
      cases m with
      | int n => exact ⟨n, rfl, of_decide_eq_true z⟩
      | _ => cases z
    refine ⟨_, rfl, D, ss, rfl, row.same e2, by omega, fun H3 D2 e3 n3 pr => ?_⟩
    refine ⟨_, rfl, D2, OM.spans ss, n, rfl, pr, by unfold OM.spans; rw [List.length_map]; omega, OM.spans_ok (good_m g), fun H4 e4 => ?_⟩
    exact q2 n rfl n0 _ (((e1.trans e2).trans e3).trans e4)
end
end OB
namespace OM
def takenN (ss : List S3) (f : List (Option Nat)) (b : Int) (i : Nat) : List Nat := (List.range i).filterMap fun k => match f[k]?, ss[k]? with
  | some (some num), some s => if b ≤ lastD s then some num else none
  | _, _ => none
theorem takenN_len {ss : List S3} {f : List (Option Nat)} {b : Int} {i : Nat} : (takenN ss f b i).length ≤ i := by
  unfold takenN
  have := List.length_filterMap_le (fun k => match f[k]?, ss[k]? with
    | some (some num), some s => if b ≤ lastD s then some num else none
    | _, _ => none) (List.range i)
  rw [List.length_range] at this
  exact this
def takeO (b : Int) (s : S3) : Option Nat → List Nat
  | some num => if b ≤ lastD s then [num] else []
  | none => []
theorem takenN_succ {ss : List S3} {f : List (Option Nat)} {b : Int} {i : Nat} {o : Option Nat} {s : S3} (hf : f[i]? = some o) (hs : ss[i]? = some s) : takenN ss f b (i + 1) = takenN ss f b i ++ takeO b s o := by
  unfold takenN
  rw [List.range_succ, List.filterMap_append]
  congr 1
  rw [List.filterMap_cons, List.filterMap_nil, hf, hs]
  cases o with
  | none => rfl
  | some num =>
    unfold takeO
    by_cases y : b ≤ lastD s
    · simp only [y, if_true]
    · simp only [y, if_false]
def freeN (ss : List S3) (f : List (Option Nat)) (b : Int) (i : Nat) : List Nat := (List.range i).filter fun k => decide (k ∉ takenL ss f b)
theorem freeN_succ {ss : List S3} {f : List (Option Nat)} {b : Int} {i : Nat} : freeN ss f b (i + 1) = freeN ss f b i ++ (if i ∈ takenL ss f b then [] else [i]) := by
  unfold freeN
  rw [List.range_succ, List.filter_append]
  congr 1
  by_cases y : i ∈ takenL ss f b
  · rw [if_pos y]
    simp [y]
  · rw [if_neg y]
    simp [y]
end OM
namespace OB
open PySem PySem.Spec PyProof.Rows L2 LamX
theorem ix_listK {X : Cx} {K : PySem.W.Frag} (h : X.K = K) : IxR X (rIxL K) := by
  subst h
  exact ix_list
theorem op_notIn_K {X : Cx} {K : PySem.W.Frag} (h : X.K = K) : OpR X (compareOp .NotIn) (rIn K true) := by
  subst h
  exact op_notIn_seq
def nats (l : List Nat) : List V := (l.map fun k => ((k : Nat) : Int)).map V.int
theorem nats_app (a b : List Nat) : nats (a ++ b) = nats a ++ nats b := by unfold nats; rw [List.map_append, List.map_append]
theorem nats_len (a : List Nat) : (nats a).length = a.length := by unfold nats; rw [List.length_map, List.length_map]
theorem inV_nats (k : Nat) : ∀ l : List Nat, inV (.int ((k : Nat) : Int)) (nats l) = decide (k ∈ l)
  | [] => rfl
  | x :: l => by
    have ih := inV_nats k l
    show (decide (((x : Nat) : Int) = (k : Nat)) || inV (.int ((k : Nat) : Int)) (nats l)) = _
    rw [ih]
    by_cases a : x = k
    · subst a
      simp
    · have c : ¬ k = x := fun z => a z.symm
      have d : ¬ ((x : Nat) : Int) = (k : Nat) := fun z => a (by omega)
      simp [c, d]
theorem flat_nats : ∀ l : List Nat, (nats l).all flatV = true
  | [] => rfl
  | x :: l => flat_nats l
def rNo : R2 := fun x y H Q => y = .non ∧ Q (.bl (!decide (x = .non))) H
theorem op_no {X : Cx} : OpR X (compareOp .IsNot) rNo := op_notN
def numV? (o : Option Nat) : V := match o with
  | some k => .int ((k : Nat) : Int)
  | none => .non
def Nl : List Str := ["stays", "many", "found", "at", "taken", "free", "k", "number"]
def spLGiven (TT : List (Addr × Str)) : Sp := fun vs H Q _ => ∃ (a : Addr) (ss : List S3) (n : Int), vs = [.ref a, .int n] ∧ Row H a ss ∧ ss.length ≤ 100 ∧ 0 ≤ n ∧ n ≤ 1000 ∧ Tabs TT H ∧ ∀ H' os, OM.Order (begs ss) ss.length os → ExtN H H' → Tabs TT H' →
  (OM.runL ss n os (List.replicate ss.length none) = none → Q .non H') ∧ (∀ f D, OM.runL ss n os (List.replicate ss.length none) = some f → H D = none → H' D = some (.lst (f.map numV?)) → Q (.ref D) H')
theorem ButS.tabs {T : List (Addr × Str)} {D : Addr} {H H' : Hp} {xs : List V} (t : Tabs T H) (hD : H D = some (.lst xs)) (b : ButS D H H') : Tabs T H' := fun y hy => by
  obtain ⟨ps, h1, h2, h3⟩ := t y hy
  refine ⟨ps, b _ _ (ne_of h1 hD (by intro z; cases z)) h1, h2, fun pos cv hc => ?_⟩
  obtain ⟨c, e1, e2⟩ := h3 pos cv hc
  exact ⟨c, e1, b _ _ (ne_of e2 hD (by intro z; unfold CodeO at z; cases z)) e2⟩
section
variable {P : Program} {w : World} {K : PySem.W.Frag} {mg : Str → Option Value} {base : Heap}
end
end OB
namespace OB
open PySem PySem.Spec PyProof.Rows L2
abbrev sNums : Stmt := top 20
/-! ### any object that may tell numbers -/
def Tells (K : PySem.W.Frag) (H : Hp) (v : V) (r : Option (List V)) : Prop := match r with
  | none => ∃ k, Any K H v k ∧ fSeq v k = false
  | some xs => ∃ (a : Addr) (tp : Bool), v = .ref a ∧ H a = some (mkX tp xs) ∧ (∀ x ∈ xs, flatV x = true ∧ ∃ k, Any K H x k) ∧ xs.length < 1000
theorem Tells.same {K : PySem.W.Frag} {H H' : Hp} {v : V} {r : Option (List V)} (h : Tells K H v r) (e : Same H H') : Tells K H' v r := by
  cases r with
  | none =>
    obtain ⟨k, h1, h2⟩ := h
    exact ⟨k, h1.same e, h2⟩
  | some xs =>
    obtain ⟨a, tp, h1, h2, h3, h4⟩ := h
    exact ⟨a, tp, h1, e _ _ h2, fun x m => ⟨(h3 x m).1, (h3 x m).2.imp fun k z => z.same e⟩, h4⟩
def numB (m : Int) (x : V) : Bool := match x with
  | .int i => decide (0 ≤ i) && decide (i < m)
  | _ => false
def intOf (x : V) : Int := match x with
  | .int i => i
  | _ => 0
def numsOf (n : Nat) (m : Int) (r : Option (List V)) : Option (List Int) := match r with
  | none => none
  | some xs => if xs.length = n ∧ xs.all (numB m) = true then some (xs.map intOf) else none
theorem nums_some {n : Nat} {m : Int} {r : Option (List V)} {ns : List Int} (h : numsOf n m r = some ns) : ns.length = n ∧ (∀ i ∈ ns, 0 ≤ i ∧ i < m) ∧ r = some (ns.map V.int) := by
  cases r with
  | none => cases h
  | some xs =>
    have h : (if xs.length = n ∧ xs.all (numB m) = true then some (xs.map intOf) else none) = some ns := h
    by_cases c : xs.length = n ∧ xs.all (numB m) = true
    · rw [if_pos c] at h
      injection h with h
      subst h
      have key : xs = (xs.map intOf).map V.int ∧ ∀ i ∈ xs.map intOf, 0 ≤ i ∧ i < m := by
        have c2 := c.2
        clear c h
        induction xs with
        | nil => exact ⟨rfl, fun i z => by cases z⟩
        | cons x xs ih =>
          rw [List.all_cons, Bool.and_eq_true] at c2
          obtain ⟨i1, i2⟩ := ih c2.2
          cases x with
          | int i =>
            have z : (decide (0 ≤ i) && decide (i < m)) = true := c2.1
            rw [Bool.and_eq_true, decide_eq_true_eq, decide_eq_true_eq] at z
            refine ⟨?_, fun j mj => ?_⟩
            · show V.int i :: xs = V.int i :: (xs.map intOf).map V.int
              rw [← i1]
            · rcases List.mem_cons.mp mj with y | y
              · rw [y]; exact z
              · exact i2 j y
          | _ => cases c2.1
      exact ⟨by rw [List.length_map]; exact c.1, key.2, by rw [← key.1]⟩
    · rw [if_neg c] at h
      cases h
def spNums (K : PySem.W.Frag) : Sp := fun vs H Q _ => ∃ (a : Addr) (us : List V) (m : Int) (v : V) (r : Option (List V)), vs = [.ref a, .int m, v] ∧ H a = some (.lst us) ∧ Tells K H v r ∧ (numsOf us.length m r = none → ∀ H', Same H H' → Q .non H') ∧
  (∀ ns, numsOf us.length m r = some ns → ∀ H' D, Same H H' → H D = none → H' D = some (.lst (ns.map V.int)) → Q (.ref D) H')
section
variable {P : Program} {w : World} {K : PySem.W.Frag} {mg : Str → Option Value} {base : Heap}
theorem scNums : FnScope ["stays", "many", "thing", "number"] ["stays", "many", "thing"] (defScope sNums) := ⟨rfl, rfl, rfl, by decide +kernel, rfl, by decide +kernel, by decide +kernel⟩
theorem ok_nums {f fL fN : Addr} {fd fdL fdN : FuncData} (F : Fun K "numbers_told" "numbers_told" sNums f fd) (T : TxtC mg)
    (GL : FnOk P w K mg base CX0 1 fL fdL ["thing"] (spAsk K fSeq)) (gL : mg "is_list" = some (.ref fL)) (kL : PySem.W.keepIn K (.ref fL) = true) (bL : Binds K fdL ["thing"] [])
    (GN : FnOk P w K mg base CX0 2 fN fdN ["thing"] (spAsk K (numFrom 0))) (gN : mg "is_number" = some (.ref fN)) (kN : PySem.W.keepIn K (.ref fN) = true) (bN : Binds K fdN ["thing"] []) : FnOk P w K mg base CX0 3 f fd ["stays", "many", "thing"] (spNums K) := by
  refine F.ok scNums (fun vs H Q E h => ?_) (fun cdv A outer s H vs Q E hr h => ?_)
  · obtain ⟨a, us, m, v, r, rfl, _⟩ := h
    rfl
  · obtain ⟨a, us, m, v, r, rfl, hu, ht, q0, q1⟩ := h
    have nd := scNums.nd
    have hr1 := hr.mono (show 1 ≤ 2 by decide)
    refine ⟨_, pss_cons (ps_if (PW.pt (pw_or (pt_not (pt_val (pe_call GL hr1 (by rfl) gL kL bL .nil pass0 (pa_cons (pv 2) pa_nil)))) (pw_or1 (pt_cmpR op_ne (pe_callB call_len_seq (by rfl) T.len PySem.boot_len (pa_cons (pv 2) pa_nil)) (pe_callB call_len_seq (by rfl) T.len PySem.boot_len (pa_cons (pv 0) pa_nil)) (nomark _)))))
        (pss_one (ps_ret pe_non)) pss_nil)
      (pss_one (ps_ret (pe_ifExp (pt_val (pe_callB (cr_all rfl) (by rfl) T.all (by decide +kernel) (pa_cons (pe_lc (own := [("number", 3)]) (g := gName 3) (tt := tYes) rfl nd (pi_X (pv 2)) (blkOk_by (N := ["stays", "many", "thing", "number"]) (sc := defScope sNums) (by decide +kernel))
          (fun _ _ _ _ _ => pg_name (i := 3) nd rfl (Or.inl rfl)) (fun _ _ _ _ _ => pts_nil) (fun _ _ _ _ _ => pe_and (pe_call GN hr (by rfl) gN kN bN .nil pass0 (pa_cons (pv 3) pa_nil)) (pe_one (pe_cmpR op_lt (pv 3) (pv 1) (nomark _))))) pa_nil)))
        (pe_callTy call_list_of (by rfl) T.list bList (pa_cons (pv 2) pa_nil)) pe_non))), ?_⟩
    cases r with
    | none =>
      obtain ⟨k, h, hf⟩ := ht
      refine ⟨_, rfl, v, k, rfl, h, fun H1 e1 => ⟨_, rfl, ?_⟩⟩
      rw [hf]
      exact iteT (q0 rfl _ e1)
    | some xs =>
      obtain ⟨b, tp, rfl, h, ax, hl⟩ := ht
      obtain ⟨k, av, hf⟩ : ∃ k, Any K H (.ref b) k ∧ fSeq (.ref b) k = true := by
        cases tp with
        | true => exact ⟨.tup, .tup h, rfl⟩
        | false => exact ⟨.lst, .lst h, rfl⟩
      refine ⟨_, rfl, _, k, rfl, av, fun H1 e1 => ⟨_, rfl, ?_⟩⟩
      rw [hf]
      have h1 := e1 _ _ h
      have sx : SqX tp K H1 b xs := SqX.at h1
      refine iteF ⟨_, rfl, b, xs, rfl, sx.or, _, rfl, a, us, rfl, .inl (SqL.of (e1 _ _ hu)), rfl, _, rfl, ?_⟩
      refine ite2 (fun hn => ?_) (fun hn => ?_)
      · have h3 : ¬ xs.length = us.length := fun z => by
          rw [z] at hn
          simp at hn
        exact q0 (if_neg fun z => h3 z.1) _ e1
      · have h3 : xs.length = us.length := by
          by_cases z : xs.length = us.length
          · exact z
          · exfalso
            apply hn
            have ne : decide (V.int (xs.length : Nat) = V.int (us.length : Nat)) = false := decide_eq_false fun y => z (by
              have := V.int.inj y
              omega)
            rw [ne] <;> rfl
        refine ⟨_, rfl, tp, b, xs, rfl, sx, fun D nD => ?_⟩
        have lm : ((xs.map (numB m)).map V.bl).length = xs.length := by simp
        have nA : ∀ {i : Nat} {G : Hp}, AccP D H1 (mapTo ((xs.map (numB m)).map V.bl)) i G → SqX tp K G b xs := fun z => SqX.same sx (acc_same z (Same.refl H1) nD)
        refine lc_it walk_X (AccP D H1 (mapTo ((xs.map (numB m)).map V.bl))) (acc_start rfl) (fun i G _ z => nA z) (fun i x G G' hi z y => ?_) (fun G z => ?_)
        · obtain ⟨rfl, hx⟩ := y
          refine ⟨rfl, ?_⟩
          dsimp only [tYes]
          rw [if_pos rfl]
          obtain ⟨_, kx, bx⟩ := ax x (List.mem_of_getElem? hx)
          refine ⟨_, rfl, x, kx, rfl, (bx.same e1).same (acc_same z (Same.refl H1) nD), fun G2 e2 => ⟨_, rfl, ?_⟩⟩
          have fin := fun (w : V) (hw : w = V.bl (numB m x)) => acc_in (y := w) z e2 (mapTo_len (by rw [lm, sizeLine_eq]; omega)) (mapTo_succ (by rw [List.getElem?_map, List.getElem?_map, hx, hw] <;> rfl))
          rw [numV_eq]
          cases x with
          | int i =>
            show if decide (0 ≤ i) = true then _ else _
            refine ite2 (fun g => ⟨_, rfl, _, rfl, i, m, rfl, rfl, fin _ ?_⟩) (fun g => fin _ ?_)
            · show _ = V.bl (decide (0 ≤ i) && decide (i < m))
              rw [g] <;> rfl
            · have g : decide (0 ≤ i) = false := by simpa using g
              show _ = V.bl (decide (0 ≤ i) && decide (i < m))
              rw [g] <;> rfl
          | _ => exact iteF (fin _ rfl)
        · rw [← lm] at z
          have gD : G D = some (.lst ((xs.map (numB m)).map V.bl)) := by rw [z.2, mapTo_all]
          have e2 : Same H G := acc_same z e1 nD
          have sx2 := nA z
          refine ⟨D, xs.map (numB m), rfl, SqL.of gD, _, rfl, ?_⟩
          have al : (xs.map (numB m)).all id = xs.all (numB m) := by rw [List.all_map] <;> rfl
          rw [al]
          cases hall : xs.all (numB m) with
          | false => exact iteF (q0 (if_neg fun z => by rw [hall] at z; cases z.2) _ e2)
          | true =>
            have e : numsOf us.length m (some xs) = some (xs.map intOf) := if_pos ⟨h3, hall⟩
            have ei := (nums_some e).2.2
            injection ei with ei
            refine iteT ⟨_, rfl, b, xs, rfl, sx2.or, fun L nL => q1 _ e _ L (e2.trans (Same.new nL)) (e2.free nL) ?_⟩
            rw [upd_same, ← ei]
end
end OB
namespace OM
def clash (ss : List S3) (ns : List Int) (i j : Nat) : Bool := match ss[i]?, ss[j]?, ns[i]?, ns[j]? with
  | some s, some t, some x, some y => decide (x = y) && decide ((if t.1 > s.1 then t.1 else s.1) ≤ (if lastD t < lastD s then lastD t else lastD s))
  | _, _, _, _ => false
theorem clash_at {ss : List S3} {ns : List Int} {i j : Nat} {s t : S3} {x y : Int} (h1 : ss[i]? = some s) (h2 : ss[j]? = some t) (h3 : ns[i]? = some x) (h4 : ns[j]? = some y) :
    clash ss ns i j = (decide (x = y) && decide ((if t.1 > s.1 then t.1 else s.1) ≤ (if lastD t < lastD s then lastD t else lastD s))) := by
  unfold clash
  rw [h1, h2, h3, h4]
def apartB (ss : List S3) (ns : List Int) : Bool := (List.range ss.length).all fun i => (List.range i).all fun j => !clash ss ns i j
theorem apart_no {ss : List S3} {ns : List Int} {i j : Nat} (hi : i < ss.length) (hj : j < i) (h : clash ss ns i j = true) : apartB ss ns = false := by
  rw [Bool.eq_false_iff]
  intro z
  have a := List.all_eq_true.mp z i (List.mem_range.mpr hi)
  have b := List.all_eq_true.mp a j (List.mem_range.mpr hj)
  rw [h] at b
  cases b
theorem apart_yes {ss : List S3} {ns : List Int} (h : ∀ i, i < ss.length → ∀ j, j < i → clash ss ns i j = false) : apartB ss ns = true :=
  List.all_eq_true.mpr fun i mi => List.all_eq_true.mpr fun j mj => by rw [h i (List.mem_range.mp mi) j (List.mem_range.mp mj)] <;> rfl
end OM
namespace OB
open PySem PySem.Spec PyProof.Rows L2
theorem call_isAK {X : Cx} {K : PySem.W.Frag} (h : X.K = K) : CallR X (.builtin "isinstance") (rIsA K) := by
  subst h
  exact call_isA
/-- whether what is told gives -/
def isGiv (ss : List S3) (m : Int) (r : Option (List V)) : Bool := match numsOf ss.length m r with
  | none => false
  | some ns => OM.apartB ss ns
section
variable {P : Program} {w : World} {K : PySem.W.Frag} {mg : Str → Option Value} {base : Heap}
end
end OB
namespace OB
open PySem PySem.Spec PyProof.Rows L2
/-- list(e.values()) -/
def tListVals (te : TE) : TE := fun σ H Q => te σ H fun x H1 => ∃ (d : Addr) (kvs : List (Key × V)), x = .ref d ∧ H1 d = some (.dK kvs) ∧ ∀ q, H1 q = none → Q (.ref q) (upd H1 q (.lst (kvs.map fun kv => kv.2)))
section
variable {X : Cx} {e : Expr} {te : TE} {p apos cpos pos : Pos}
theorem pe_listVals (hc : X.calm = true) (he : PE X e te) (hg : Gl X "list") (hm : X.mg "list" = none) (hv : bootBuiltins "list" = some (.type "list")) (hbase : attributeBase e "values" X.env (eval e X.env) = eval e X.env := by rfl) (hline : (apos.endLine == cpos.line) = true := by rfl)
    (hs : starEach [.Call (.Attribute e "values" apos) [] [] cpos] X.env = (false, eval (.Call (.Attribute e "values" apos) [] [] cpos) X.env) :: starEach [] X.env := by rfl) :
    PE X (.Call (.Name "list" p) [.Call (.Attribute e "values" apos) [] [] cpos] [] pos) (tListVals te) := by
  refine ⟨fun pins s σ H Q I hq => ?_⟩
  refine wpAny_Call_Name_kw (ld_blt I hg hm hv ?_)
  refine PyProof.Rows.callWith_type1 ?_ hs rfl
  rw [hs]
  show wpAny _ _ (spliced ((false, eval (.Call (.Attribute e "values" apos) [] [] cpos) X.env) :: backTo pos (starEach [] X.env))) _ _ s
  refine Calls.spliced_cons ?_
  refine wpAny_Call_method (T := "dict") (id := "dict.values") hbase rfl hline F.plainAttrs_dict F.slot_dict_values F.type_dict_values (thn (he.run pins s σ H _ I hq) fun u s1 ⟨x, H1, I1, rx, d, kvs, ex, hd, q⟩ => ?_)
  subst ex
  obtain rfl : u = Value.ref d := rx
  obtain ⟨hz, hs0, vs, kv, hdo⟩ := I1.hok d _ hd
  obtain ⟨ep, hat⟩ := hdo.dictAt
  have lk : kvs.length = vs.length := Paired.length kv
  have I2 : Inv X pins σ H1 { s1 with heap := s1.heap.push { cls := .type "dict_values", data := .fields #[.ref d] } } := I1.kept (t' := s1.toks) fun b ob q => Heap.get?_push_of_some _ q
  refine ⟨hdo.typeIs, hdo.mapOf.noDict, ?_⟩
  show wpAny _ _ (callWith cpos (.builtin "dict.values") [.ref d] [] []) _ X.xe s1
  refine method_meetsIn F.slot_dict_values F.entry_dict_values rfl (PySem.evalArgs_none ⟨rfl, hdo.typeIs, F.args_dict_values_1 _, _, meets_dict_values (mixKind X.prog X.w) d hs0, ⟨vs, hdo⟩, ?_⟩)
  refine Calls.spliced_nil ?_
  refine PySem.W.kdl_call (PySem.W.kdl_values (knd := mixKind X.prog X.w) (kvs := vs) (ep := ep) (r := s1.heap.objs.size) (d := d)) (I1.ok.hd hc) ⟨⟨_, Heap.get?_push_size _ rfl, rfl, rfl⟩, hat.push _⟩ (by omega) fun h' tk acc' c' hk hS hacc => ?_
  refine ⟨.ref _, _, I2.laid hk (Nat.le_refl _) (show ObjOk X.prog X.w _ _ _ (.lst (kvs.map fun kv => kv.2)) from ⟨?_, acc'.toList, c', ?_, ?_⟩), rfl, q _ (I2.hok.fresh (Nat.le_refl _))⟩
  · rw [List.length_map]; exact hz
  · have el : acc'.toList.length = acc'.size := by simp
    refine vals_of_at (by rw [List.length_map, el, hacc.1, lk]) fun j x w h1 h2 => ?_
    obtain ⟨k, hky⟩ := hacc.2 j w (by rw [← Array.getElem?_toList]; exact h2)
    rw [List.getElem?_map] at h1
    obtain ⟨kx, e1, e2⟩ := Option.map_eq_some_iff.mp h1
    obtain ⟨y, g1, g2, g3⟩ := LiI.paired_get kv e1
    rw [hky] at g1
    cases g1
    rw [← e2]
    exact g3
  · rw [Array.toArray_toList]; exact hS
end
end OB
namespace OB
open PySem PySem.Spec PyProof.Rows L2
/-! ### lots: the stays of each number, each list at its address -/
abbrev Lot := Int × Addr × List S3
def kvOf (st : List Lot) : List (Key × V) := st.map fun t => ((.inl t.1 : Key), V.ref t.2.1)
def sel (n : Int) (pr : List (S3 × Int)) : List S3 := (pr.filter fun p => decide (p.2 = n)).map Prod.fst
theorem sel_snoc {n k : Int} {s : S3} {pr : List (S3 × Int)} : sel n (pr ++ [(s, k)]) = sel n pr ++ (if k = n then [s] else []) := by
  unfold sel
  rw [List.filter_append, List.map_append]
  congr 1
  by_cases y : k = n
  · rw [if_pos y]
    simp [y]
  · rw [if_neg y]
    simp [y]
theorem val_in {k : Int} {v : V} : ∀ {st : List Lot}, valV (kvOf st) (.inl k : Key) = some v → ∃ t ∈ st, t.1 = k ∧ v = .ref t.2.1
  | [], h => by cases h
  | t :: st, h => by
    by_cases e : t.1 = k
    · have z : valV (kvOf (t :: st)) (.inl k : Key) = some (.ref t.2.1) := valV_pos (p := ((.inl t.1 : Key), V.ref t.2.1)) (by rw [e])
      rw [z] at h
      exact ⟨t, List.mem_cons_self .., e, (Option.some.inj h).symm⟩
    · have z : valV (kvOf (t :: st)) (.inl k : Key) = valV (kvOf st) (.inl k : Key) := valV_neg (p := ((.inl t.1 : Key), V.ref t.2.1)) (fun y => e (Sum.inl.inj y))
      rw [z] at h
      obtain ⟨u, m, r⟩ := val_in h
      exact ⟨u, List.mem_cons_of_mem _ m, r⟩
theorem val_out {k : Int} : ∀ {st : List Lot}, valV (kvOf st) (.inl k : Key) = none → k ∉ st.map fun t => t.1
  | [], _ => fun z => by cases z
  | t :: st, h => by
    by_cases e : t.1 = k
    · have z : valV (kvOf (t :: st)) (.inl k : Key) = some (.ref t.2.1) := valV_pos (p := ((.inl t.1 : Key), V.ref t.2.1)) (by rw [e])
      rw [z] at h
      cases h
    · have z : valV (kvOf (t :: st)) (.inl k : Key) = valV (kvOf st) (.inl k : Key) := valV_neg (p := ((.inl t.1 : Key), V.ref t.2.1)) (fun y => e (Sum.inl.inj y))
      rw [z] at h
      intro m
      rcases List.mem_cons.mp m with y | y
      · exact e y.symm
      · exact val_out h y
theorem put_out {k : Int} {v : V} {st : List Lot} (h : valV (kvOf st) (.inl k : Key) = none) : putK (kvOf st) (.inl k : Key) v = kvOf st ++ [(.inl k, v)] := by
  unfold putK
  rw [valV_any, h]
  rfl
theorem Row.off {H : Hp} {D E : Addr} {ss : List S3} {xs ys : List V} (r : Row H D ss) (n : D ≠ E) (e : H E = some (.lst xs)) : Row (upd H E (.lst ys)) D ss := by
  obtain ⟨vs, h, p⟩ := r
  exact ⟨vs, by rw [upd_ne n]; exact h, Paired.imp (fun _ _ z => St.putL z e) p⟩
theorem Row.offD {H : Hp} {D E : Addr} {ss : List S3} {xs ys : List (Key × V)} (r : Row H D ss) (e : H E = some (.dK xs)) : Row (upd H E (.dK ys)) D ss := by
  obtain ⟨vs, h, p⟩ := r
  refine ⟨vs, by rw [upd_ne (ne_of h e (by intro z; cases z))]; exact h, Paired.imp (fun v b ⟨t, z, g⟩ => ⟨t, z, ?_⟩) p⟩
  rw [upd_ne (ne_of g e (by intro z; cases z))]
  exact g
theorem Row.addS {H : Hp} {D : Addr} {ss : List S3} {xs : List V} {v : V} {s : S3} (r : Row H D ss) (e : H D = some (.lst xs)) (h : St H v s) : Row (upd H D (.lst (xs ++ [v]))) D (ss ++ [s]) := by
  obtain ⟨vs, g, p⟩ := r
  rw [e] at g
  injection g with g
  injection g with g
  subst g
  exact ⟨_, upd_same, Paired.snoc (Paired.imp (fun _ _ z => St.putL z e) p) (h.putL e)⟩
structure Lots (H0 : Hp) (Ld : Addr) (pr : List (S3 × Int)) (st : List Lot) (G : Hp) : Prop where
  d : G Ld = some (.dK (kvOf st))
  rows : ∀ t ∈ st, Row G t.2.1 t.2.2
  fresh : ∀ t ∈ st, H0 t.2.1 = none
  nodA : (st.map fun t => t.2.1).Nodup
  nodK : (st.map fun t => t.1).Nodup
  sl : ∀ t ∈ st, t.2.2 = sel t.1 pr
  all : ∀ n, n ∈ (st.map fun t => t.1) ↔ n ∈ pr.map Prod.snd
theorem Lots.same {H0 G G' : Hp} {Ld : Addr} {pr : List (S3 × Int)} {st : List Lot} (h : Lots H0 Ld pr st G) (e : Same G G') : Lots H0 Ld pr st G' :=
  ⟨e _ _ h.d, fun t m => (h.rows t m).same e, h.fresh, h.nodA, h.nodK, h.sl, h.all⟩
theorem map_inj {α β : Type} {f : α → β} : ∀ {l : List α} {a b : α}, (l.map f).Nodup → a ∈ l → b ∈ l → f a = f b → a = b
  | x :: l, a, b, nd, ha, hb, e => by
    obtain ⟨n1, n2⟩ := List.nodup_cons.mp nd
    rcases List.mem_cons.mp ha with y | y <;> rcases List.mem_cons.mp hb with z | z
    · rw [y, z]
    · subst y
      exact absurd (List.mem_map.mpr ⟨b, z, e.symm⟩) n1
    · subst z
      exact absurd (List.mem_map.mpr ⟨a, y, e⟩) n1
    · exact map_inj n2 y z e
/-- a stay more of a number that has a lot -/
theorem Lots.more {H0 G : Hp} {Ld : Addr} {pr : List (S3 × Int)} {st : List Lot} {k : Int} {t : Lot} {s : S3} {v : V} {xs : List V} (h : Lots H0 Ld pr st G) (m : t ∈ st) (e : t.1 = k) (hs : St G v s) (gx : G t.2.1 = some (.lst xs)) :
    Lots H0 Ld (pr ++ [(s, k)]) (st.map fun u => if u.1 = k then (u.1, u.2.1, u.2.2 ++ [s]) else u) (upd G t.2.1 (.lst (xs ++ [v]))) := by
  have k1 : (st.map fun u => if u.1 = k then (u.1, u.2.1, u.2.2 ++ [s]) else u).map (fun t : Lot => t.1) = st.map fun t => t.1 := by
    rw [List.map_map]
    refine List.map_congr_left fun u _ => ?_
    show (if u.1 = k then (u.1, u.2.1, u.2.2 ++ [s]) else u : Lot).1 = u.1
    split <;> rfl
  have k2 : (st.map fun u => if u.1 = k then (u.1, u.2.1, u.2.2 ++ [s]) else u).map (fun t : Lot => t.2.1) = st.map fun t => t.2.1 := by
    rw [List.map_map]
    refine List.map_congr_left fun u _ => ?_
    show (if u.1 = k then (u.1, u.2.1, u.2.2 ++ [s]) else u : Lot).2.1 = u.2.1
    split <;> rfl
  have k3 : kvOf (st.map fun u => if u.1 = k then (u.1, u.2.1, u.2.2 ++ [s]) else u) = kvOf st := by
    unfold kvOf
    rw [List.map_map]
    refine List.map_congr_left fun u _ => ?_
    show ((.inl (if u.1 = k then (u.1, u.2.1, u.2.2 ++ [s]) else u : Lot).1 : Key), V.ref (if u.1 = k then (u.1, u.2.1, u.2.2 ++ [s]) else u : Lot).2.1) = _
    split <;> rfl
  have uni : ∀ u ∈ st, u.1 = k → u = t := fun u mu eu => map_inj (f := fun t : Lot => t.1) h.nodK mu m (eu.trans e.symm)
  have adr : ∀ u ∈ st, u.1 ≠ k → u.2.1 ≠ t.2.1 := fun u mu nu eu => nu (by rw [map_inj (f := fun t : Lot => t.2.1) h.nodA mu m eu]; exact e)
  refine ⟨?_, fun u mu => ?_, fun u mu => ?_, by rw [k2]; exact h.nodA, by rw [k1]; exact h.nodK, fun u mu => ?_, fun n => ?_⟩
  · rw [k3, upd_ne (ne_of h.d gx (by intro z; cases z))]
    exact h.d
  · obtain ⟨w, mw, rfl⟩ := List.mem_map.mp mu
    by_cases y : w.1 = k
    · rw [if_pos y]
      obtain rfl := uni w mw y
      exact (h.rows w mw).addS gx hs
    · rw [if_neg y]
      exact (h.rows w mw).off (adr w mw y) gx
  · obtain ⟨w, mw, rfl⟩ := List.mem_map.mp mu
    have := h.fresh w mw
    split <;> exact this
  · obtain ⟨w, mw, rfl⟩ := List.mem_map.mp mu
    have z := h.sl w mw
    by_cases y : w.1 = k
    · rw [if_pos y]
      show w.2.2 ++ [s] = sel w.1 _
      rw [sel_snoc, if_pos y.symm, z]
    · rw [if_neg y, sel_snoc, if_neg (fun x => y x.symm), List.append_nil]
      exact z
  · rw [k1, h.all n, List.map_append]
    constructor
    · intro z
      exact List.mem_append_left _ z
    · intro z
      rcases List.mem_append.mp z with y | y
      · exact y
      · have : n = k := by simpa using y
        rw [this, ← h.all k]
        exact List.mem_map.mpr ⟨t, m, e⟩
/-- a stay of a new number -/
theorem Lots.new {H0 G : Hp} {Ld Y : Addr} {pr : List (S3 × Int)} {st : List Lot} {k : Int} {s : S3} {v : V} (h : Lots H0 Ld pr st G) (no : k ∉ st.map fun t => t.1) (hs : St G v s) (nY : H0 Y = none) (gY : G Y = some (.lst [])) (nA : ∀ t ∈ st, t.2.1 ≠ Y) :
    Lots H0 Ld (pr ++ [(s, k)]) (st ++ [(k, Y, [s])]) (upd (upd G Ld (.dK (kvOf st ++ [(.inl k, .ref Y)]))) Y (.lst ([] ++ [v]))) := by
  have LY : Ld ≠ Y := ne_of h.d gY (by intro z; cases z)
  have gY2 : (upd G Ld (.dK (kvOf st ++ [(.inl k, .ref Y)]))) Y = some (.lst []) := by rw [upd_ne (Ne.symm LY)]; exact gY
  have hs2 : St (upd G Ld (.dK (kvOf st ++ [(.inl k, .ref Y)]))) v s := by
    obtain ⟨t, z, g⟩ := hs
    refine ⟨t, z, ?_⟩
    rw [upd_ne (ne_of g h.d (by intro z; cases z))]
    exact g
  refine ⟨?_, fun u mu => ?_, fun u mu => ?_, ?_, ?_, fun u mu => ?_, fun n => ?_⟩
  · rw [upd_ne LY, upd_same]
    unfold kvOf
    rw [List.map_append] <;> rfl
  · rcases List.mem_append.mp mu with z | z
    · exact ((h.rows u z).offD h.d).off (nA u z) gY2
    · obtain rfl := List.mem_singleton.mp z
      exact Row.addS (ss := []) ⟨[], gY2, .nil⟩ gY2 hs2
  · rcases List.mem_append.mp mu with z | z
    · exact h.fresh u z
    · obtain rfl := List.mem_singleton.mp z
      exact nY
  · rw [List.map_append, List.nodup_append]
    refine ⟨h.nodA, by simp, fun a ma b mb => ?_⟩
    obtain ⟨t, mt, rfl⟩ := List.mem_map.mp ma
    obtain rfl : b = Y := by simpa using mb
    exact nA t mt
  · rw [List.map_append, List.nodup_append]
    refine ⟨h.nodK, by simp, fun a ma b mb => ?_⟩
    obtain rfl : b = k := by simpa using mb
    exact fun z => no (by rw [← z]; exact ma)
  · rcases List.mem_append.mp mu with z | z
    · have y : ¬ k = u.1 := fun y => no (by rw [y]; exact List.mem_map.mpr ⟨u, z, rfl⟩)
      rw [sel_snoc, if_neg y, List.append_nil]
      exact h.sl u z
    · obtain rfl := List.mem_singleton.mp z
      show [s] = sel k _
      rw [sel_snoc, if_pos rfl]
      have : sel k pr = [] := by
        unfold sel
        rw [List.map_eq_nil_iff, List.filter_eq_nil_iff]
        intro p mp c
        exact no ((h.all k).mpr (List.mem_map.mpr ⟨p, mp, of_decide_eq_true c⟩))
      rw [this] <;> rfl
  · rw [List.map_append, List.map_append, List.mem_append, List.mem_append, h.all n]
    simp
end OB
namespace OB
open PySem PySem.Spec PyProof.Rows L2
abbrev sLots : Stmt := top 21
def spLots : Sp := fun vs H Q _ => ∃ (a b : Addr) (ss : List S3) (ns : List Int), vs = [.ref a, .ref b] ∧ Row H a ss ∧ H b = some (.lst (ns.map V.int)) ∧ ns.length = ss.length ∧ ss.length ≤ 1000 ∧
  ∀ H' R (st : List Lot), Same H H' → H R = none → H' R = some (.lst (st.map fun t => V.ref t.2.1)) → (∀ t ∈ st, Row H' t.2.1 t.2.2 ∧ t.2.2 = sel t.1 (ss.zip ns)) → (∀ n, n ∈ (st.map fun t => t.1) ↔ n ∈ (ss.zip ns).map Prod.snd) → st.length ≤ 1000 → Q (.ref R) H'
section
variable {P : Program} {w : World} {K : PySem.W.Frag} {mg : Str → Option Value} {base : Heap}
theorem scLots : FnScope ["stays", "numbers", "lots", "stay", "number"] ["stays", "numbers"] (defScope sLots) := ⟨rfl, rfl, rfl, by decide +kernel, rfl, by decide +kernel, by decide +kernel⟩
theorem ok_lots {f : Addr} {fd : FuncData} (F : Fun K "lots_by_number" "lots_by_number" sLots f fd) (T : TxtC mg) (zi : mg "zip" = none) : FnOk P w K mg base CX0 1 f fd ["stays", "numbers"] spLots := by
  refine F.ok scLots (fun vs H Q E h => ?_) (fun cdv A outer s H vs Q E hr h => ?_)
  · obtain ⟨a, b, ss, ns, rfl, _⟩ := h
    rfl
  · obtain ⟨a, b, ss, ns, rfl, row, hb, ln, hl, q⟩ := h
    have nd := scLots.nd
    refine ⟨_, pss_cons (ps_set (i := 2) nd rfl (Or.inl rfl) pe_dnewK)
      (pss_cons (ps_for PassesOwn.never rfl (pi_zip (by rfl) zi (pa_cons (pv 0) (pa_cons (pv 1) pa_nil))) (pg_tup (by rfl) (pgs_cons (pg_name (i := 3) nd rfl (Or.inl rfl)) (pgs_cons (pg_name (i := 4) nd rfl (Or.inl rfl)) pgs_nil)))
        (pss_one (ps_expr (pe_bm PySem.F.plainAttrs_list PySem.F.slot_list_append PySem.F.type_list_append mt_append (pe_dsetd (pv 2) (pv 4) (pe_lst pa_nil) ⟨by rfl, by rfl, by rfl, by rfl⟩) (pa_cons (pv 3) pa_nil)))))
      (pss_one (ps_ret (pe_listVals rfl (pv 2) (by rfl) T.list bList)))), ?_⟩
    obtain ⟨us, hu, pu⟩ := row
    have lu := pu.length
    intro L nL
    have e1 : Same H (upd H L (.dK [])) := Same.new nL
    have gL : (upd H L (.dK [])) L = some (.dK []) := upd_same
    show tSeq _ _ _ _ (upd H L (.dK []))
    generalize upd H L (.dK []) = H1 at e1 gL ⊢
    refine ⟨_, rfl, _, rfl, a, b, us, ns.map V.int, rfl, SqL.of (e1 _ _ hu), SqL.of (e1 _ _ hb), ?_⟩
    refine for_it (walk_zip (xs := us) (ys := ns.map V.int) (n := ss.length) (by rw [List.length_map]; omega)) (fun i σ G => (∃ o3 o4 : Option V, σ = [some (.ref a), some (.ref b), some (.ref L), o3, o4]) ∧ Same H G ∧ ∃ st, Lots H L ((ss.zip ns).take i) st G ∧ st.length ≤ i)
      ⟨⟨_, _, rfl⟩, e1, [], ⟨gL, (fun t m => (List.not_mem_nil m).elim), (fun t m => (List.not_mem_nil m).elim), List.nodup_nil, List.nodup_nil, (fun t m => (List.not_mem_nil m).elim), (fun n => by rw [List.take_zero]; exact Iff.rfl)⟩, Nat.le_refl _⟩ (fun i σ G _ z => ⟨SqL.of (z.2.1 _ _ hu), SqL.of (z.2.1 _ _ hb)⟩) (fun i x σ G G' hi z y => ?_) (fun σ G z => ?_)
    · obtain ⟨⟨o3, o4, rfl⟩, eG, st, lots, ls⟩ := z
      obtain ⟨TT, x1, x2, rfl, hT, rfl, hx1, hx2⟩ := y
      obtain ⟨s, hs, t, rfl, ht⟩ := Paired.at pu hx1
      have hin : i < ns.length := by omega
      have hk : ns[i]? = some ns[i] := List.getElem?_eq_getElem hin
      have hx2 : (ns.map V.int)[i]? = some x2 := hx2
      rw [List.getElem?_map, hk] at hx2
      obtain rfl := Option.some.inj hx2
      generalize ns[i] = k at hk
      have hz : (ss.zip ns)[i]? = some (s, k) := by
        rw [List.getElem?_zip_eq_some]
        exact ⟨hs, hk⟩
      have step : (ss.zip ns).take (i + 1) = (ss.zip ns).take i ++ [(s, k)] := by rw [List.take_add_one, hz] <;> rfl
      refine ⟨TT, _, rfl, SqT.of upd_same, rfl, .ref t, _, rfl, .int k, _, rfl, rfl, ?_⟩
      have e2 : Same G (upd G TT (.tup [.ref t, .int k])) := Same.new hT
      have lots := lots.same e2
      have eG := eG.trans e2
      show tDrop _ _ _ (upd G TT (.tup [.ref t, .int k]))
      generalize upd G TT (.tup [.ref t, .int k]) = G1 at lots eG ⊢
      clear e2 hT
      refine ⟨_, rfl, L, rfl, .inl ⟨_, .of lots.d⟩, _, rfl, Nat.zero_le _, fun Y nY => ?_⟩
      have e3 : Same G1 (upd G1 Y (.lst [])) := Same.new nY
      have gY : (upd G1 Y (.lst [])) Y = some (.lst []) := upd_same
      have nYH : H Y = none := eG.free nY
      have nA : ∀ t ∈ st, t.2.1 ≠ Y := fun t m z => by
        obtain ⟨vs, h, _⟩ := lots.rows t m
        rw [z, nY] at h
        cases h
      have lots := lots.same e3
      have eG := eG.trans e3
      generalize upd G1 Y (.lst []) = G2 at lots eG gY
      have hst : St G2 (.ref t) s := ⟨t, rfl, eG _ _ ht⟩
      have kl : (kvOf st).length < sizeLine := by unfold kvOf; rw [List.length_map, sizeLine_eq]; omega
      refine ⟨kvOf st, .inl k, lots.d, rfl, kl, fun v hv => ?_, fun hn => ?_⟩
      · obtain ⟨u, mu, eu, rfl⟩ := val_in hv
        obtain ⟨xs, gx, px⟩ := lots.rows u mu
        have lx := px.length
        have : u.2.2.length ≤ i := by
          rw [lots.sl u mu]
          unfold sel
          rw [List.length_map]
          refine Nat.le_trans (List.length_filter_le _ _) ?_
          rw [List.length_take]
          omega
        refine ⟨.inl ⟨rfl, _, SqL.of gx⟩, _, rfl, u.2.1, xs, _, rfl, rfl, gx, by rw [sizeLine_eq]; omega, ?_⟩
        refine ⟨⟨_, _, rfl⟩, fun b o e => ?_, _, by rw [step]; exact lots.more mu eu hst gx, by rw [List.length_map]; omega⟩
        rw [upd_ne (ne_of_none e (lots.fresh u mu))]
        exact eG _ _ e
      · have no := val_out hn
        rw [put_out hn]
        have LY : L ≠ Y := ne_of lots.d gY (by intro z; cases z)
        have gY2 : (upd G2 L (.dK (kvOf st ++ [(.inl k, .ref Y)]))) Y = some (.lst []) := by rw [upd_ne (Ne.symm LY)]; exact gY
        refine ⟨.inl ⟨rfl, _, SqL.of gY2⟩, _, rfl, Y, [], _, rfl, rfl, gY2, by rw [sizeLine_eq]; decide, ?_⟩
        refine ⟨⟨_, _, rfl⟩, fun b o e => ?_, _, by rw [step]; exact lots.new no hst nYH gY nA, by rw [List.length_append]; simp; omega⟩
        rw [upd_ne (ne_of_none e nYH), upd_ne (ne_of_none e nL)]
        exact eG _ _ e
    · obtain ⟨⟨o3, o4, rfl⟩, eG, st, lots, ls⟩ := z
      have lz : (ss.zip ns).length = ss.length := by rw [List.length_zip]; omega
      rw [← lz, List.take_length] at lots
      refine ⟨_, rfl, L, kvOf st, rfl, lots.d, fun R nR => ?_⟩
      have eR : Same G (upd G R (.lst ((kvOf st).map fun kv => kv.2))) := Same.new nR
      refine q _ R st (eG.trans eR) (eG.free nR) ?_ (fun t m => ⟨(lots.rows t m).same eR, lots.sl t m⟩) lots.all (by omega)
      rw [upd_same]
      unfold kvOf
      rw [List.map_map] <;> rfl
end
end OB
namespace OM
/-- two stays bound on one day -/
def meet (s t : S3) : Prop := s.1 ≤ lastD t ∧ t.1 ≤ lastD s ∧ s.1 ≤ lastD s ∧ t.1 ≤ lastD t
theorem count_one {α : Type} {p : α → Bool} : ∀ {l : List α}, l.Pairwise (fun a b => ¬ (p a = true ∧ p b = true)) → l.countP p ≤ 1
  | [], _ => Nat.zero_le _
  | a :: l, h => by
    obtain ⟨h1, h2⟩ := List.pairwise_cons.mp h
    have ih := count_one h2
    rw [List.countP_cons]
    by_cases c : p a = true
    · have : l.countP p = 0 := List.countP_eq_zero.mpr fun b mb z => h1 b mb ⟨c, z⟩
      rw [this, if_pos c]
      exact Nat.le_refl _
    · rw [if_neg c]
      exact ih
theorem clash_meet {ss : List S3} {ns : List Int} {i j : Nat} {s t : S3} {x y : Int} (gs : s.1 ≤ lastD s) (gt : t.1 ≤ lastD t) (h1 : ss[i]? = some s) (h2 : ss[j]? = some t) (h3 : ns[i]? = some x) (h4 : ns[j]? = some y) : clash ss ns i j = true ↔ x = y ∧ meet t s := by
  rw [clash_at h1 h2 h3 h4, Bool.and_eq_true, decide_eq_true_eq, decide_eq_true_eq]
  unfold meet
  refine and_congr_right fun _ => ?_
  split <;> split <;> omega
end OM
namespace OB
open PySem PySem.Spec PyProof.Rows L2
theorem good_last {ss : List S3} (g : Good ss) : ∀ s ∈ ss, s.1 ≤ OM.lastD s := fun s m => by
  have z := g s m
  have : 0 ≤ s.1 ∧ s.1 ≤ s.2.1 ∧ 0 ≤ s.2.2 := z
  unfold OM.lastD
  omega
theorem apart_pair {ss : List S3} {ns : List Int} (g : Good ss) (ln : ns.length = ss.length) : OM.apartB ss ns = true ↔ (ss.zip ns).Pairwise (fun a b => ¬ (b.2 = a.2 ∧ OM.meet a.1 b.1)) := by
  have lz : (ss.zip ns).length = ss.length := by rw [List.length_zip]; omega
  have key : ∀ i j (hi : i < ss.length) (hj : j < ss.length), OM.clash ss ns i j = true ↔ (ss.zip ns)[i].2 = (ss.zip ns)[j].2 ∧ OM.meet (ss.zip ns)[j].1 (ss.zip ns)[i].1 := fun i j hi hj => by
    have := OM.clash_meet (ss := ss) (ns := ns) (i := i) (j := j) (good_last g _ (List.getElem_mem hi)) (good_last g _ (List.getElem_mem hj)) (List.getElem?_eq_getElem hi) (List.getElem?_eq_getElem hj) (List.getElem?_eq_getElem (by omega)) (List.getElem?_eq_getElem (by omega))
    rw [this, List.getElem_zip, List.getElem_zip]
  constructor
  · intro h
    rw [List.pairwise_iff_getElem]
    intro j i hj hi ji c
    have hi2 : i < ss.length := by omega
    have hj2 : j < ss.length := by omega
    have := OM.apart_no hi2 ji ((key i j hi2 hj2).mpr c)
    rw [h] at this
    cases this
  · intro h
    refine OM.apart_yes fun i hi j ji => ?_
    rw [Bool.eq_false_iff]
    intro c
    have hj : j < ss.length := by omega
    exact List.pairwise_iff_getElem.mp h j i (by omega) (by omega) ji ((key i j hi hj).mp c)
theorem cB_sel {pr : List (S3 × Int)} {n d : Int} : OM.cB (OM.spans (sel n pr)) d = pr.countP fun p => decide (p.2 = n) && (decide (p.1.1 ≤ d) && decide (d ≤ OM.lastD p.1)) := by
  unfold OM.cB OM.spans sel
  rw [List.countP_map, List.countP_map, List.countP_filter]
  refine List.countP_congr fun p _ => ?_
  show (((decide (p.1.1 ≤ d) && decide (d ≤ p.1.2.1 + p.1.2.2)) && decide (p.2 = n)) = true) ↔ _
  unfold OM.lastD
  rw [Bool.and_comm]
theorem most_sel {pr : List (S3 × Int)} (gp : ∀ p ∈ pr, p.1.1 ≤ OM.lastD p.1) (h : pr.Pairwise (fun a b => ¬ (b.2 = a.2 ∧ OM.meet a.1 b.1))) {n : Int} (hn : n ∈ pr.map Prod.snd) : OM.most (OM.spans (sel n pr)) = 1 := by
  have one : ∀ d, OM.cB (OM.spans (sel n pr)) d ≤ 1 := fun d => by
    rw [cB_sel]
    refine OM.count_one (h.imp fun {a b} nab c => nab ?_)
    obtain ⟨c1, c2⟩ := c
    simp only [Bool.and_eq_true, decide_eq_true_eq] at c1 c2
    refine ⟨by rw [c1.1, c2.1], ?_⟩
    unfold OM.meet
    omega
  obtain ⟨p, mp, rfl⟩ := List.mem_map.mp hn
  have ms : p.1 ∈ sel p.2 pr := List.mem_map.mpr ⟨p, List.mem_filter.mpr ⟨mp, decide_eq_true rfl⟩, rfl⟩
  have up : OM.most (OM.spans (sel p.2 pr)) ≤ 1 := OM.maxL_le (by decide) fun x mx => by
    obtain ⟨q, _, rfl⟩ := List.mem_map.mp mx
    have := one q.1
    omega
  have lo : ((OM.cB (OM.spans (sel p.2 pr)) p.1.1 : Nat) : Int) ≤ OM.most (OM.spans (sel p.2 pr)) := OM.maxL_ge (List.mem_cons_of_mem _ (List.mem_map.mpr ⟨(p.1.1, p.1.2.1 + p.1.2.2), List.mem_map.mpr ⟨p.1, ms, rfl⟩, rfl⟩))
  have pos : 0 < OM.cB (OM.spans (sel p.2 pr)) p.1.1 := by
    rw [cB_sel, List.countP_pos_iff]
    exact ⟨p, mp, by simp [gp p mp]⟩
  omega
theorem sel_most {pr : List (S3 × Int)} (h : ∀ n ∈ pr.map Prod.snd, OM.most (OM.spans (sel n pr)) = 1) : pr.Pairwise (fun a b => ¬ (b.2 = a.2 ∧ OM.meet a.1 b.1)) := by
  rw [List.pairwise_iff_forall_sublist]
  intro a b sub c
  obtain ⟨e, mt⟩ := c
  have ma : a ∈ pr := sub.subset (by simp)
  have mb : b ∈ pr := sub.subset (by simp)
  have one := h a.2 (List.mem_map.mpr ⟨a, ma, rfl⟩)
  have sa : a.1 ∈ sel a.2 pr := List.mem_map.mpr ⟨a, List.mem_filter.mpr ⟨ma, decide_eq_true rfl⟩, rfl⟩
  have sb : b.1 ∈ sel a.2 pr := List.mem_map.mpr ⟨b, List.mem_filter.mpr ⟨mb, decide_eq_true e⟩, rfl⟩
  have at_ : ∀ s : S3, s ∈ sel a.2 pr → ((OM.cB (OM.spans (sel a.2 pr)) s.1 : Nat) : Int) ≤ 1 := fun s ms => by
    rw [← one]
    exact OM.maxL_ge (List.mem_cons_of_mem _ (List.mem_map.mpr ⟨(s.1, s.2.1 + s.2.2), List.mem_map.mpr ⟨s, ms, rfl⟩, rfl⟩))
  have two : ∀ d, (a.1.1 ≤ d ∧ d ≤ OM.lastD a.1) → (b.1.1 ≤ d ∧ d ≤ OM.lastD b.1) → 2 ≤ OM.cB (OM.spans (sel a.2 pr)) d := fun d h1 h2 => by
    rw [cB_sel]
    have := List.Sublist.countP_le (p := fun p : S3 × Int => decide (p.2 = a.2) && (decide (p.1.1 ≤ d) && decide (d ≤ OM.lastD p.1))) sub
    have z : [a, b].countP (fun p => decide (p.2 = a.2) && (decide (p.1.1 ≤ d) && decide (d ≤ OM.lastD p.1))) = 2 := by
      simp [h1, h2, e]
    omega
  unfold OM.meet at mt
  rcases Int.le_total a.1.1 b.1.1 with z | z
  · have := two b.1.1 (by omega) (by omega)
    have := at_ b.1 sb
    omega
  · have := two a.1.1 (by omega) (by omega)
    have := at_ a.1 sa
    omega
theorem giv_lots {ss : List S3} {ns : List Int} {st : List Lot} (g : Good ss) (ln : ns.length = ss.length) (hs : ∀ t ∈ st, t.2.2 = sel t.1 (ss.zip ns)) (hk : ∀ n, n ∈ (st.map fun t => t.1) ↔ n ∈ (ss.zip ns).map Prod.snd) :
    (st.all fun t => decide (OM.most (OM.spans t.2.2) = 1)) = OM.apartB ss ns := by
  rw [Bool.eq_iff_iff, apart_pair g ln, List.all_eq_true]
  constructor
  · intro h
    refine sel_most fun n mn => ?_
    obtain ⟨t, mt, rfl⟩ := List.mem_map.mp ((hk n).mpr mn)
    rw [← hs t mt]
    exact of_decide_eq_true (h t mt)
  · intro h t mt
    rw [hs t mt]
    refine decide_eq_true (most_sel (fun p mp => ?_) h ((hk t.1).mp (List.mem_map.mpr ⟨t, mt, rfl⟩)))
    exact good_last g p.1 (List.of_mem_zip mp).1
end OB
namespace OB
open PySem PySem.Spec PyProof.Rows L2
abbrev sIsG : Stmt := top 22
def spIsG (K : PySem.W.Frag) (CS CM : Addr) : Sp := fun vs H Q E => ∃ (v m th : V) (k : Kd) (r : Nat ⊕ List S3), vs = [v, m, th] ∧ ArgS K H v r ∧ Any K H m k ∧ (∀ i, r = .inl i → Bad E H CS "index" (.int (i : Nat))) ∧ ∀ ss, r = .inr ss → (numV m = false → Bad E H CM "many" m) ∧
  (∀ n, m = .int n → 0 ≤ n → ∃ rt, Tells K H th rt ∧ ∀ H', Same H H' → Q (.bl (isGiv ss n rt)) H')
section
variable {P : Program} {w : World} {K : PySem.W.Frag} {mg : Str → Option Value} {base : Heap}
theorem scIsG : FnScope ["stays", "many", "thing", "told", "numbers", "lot"] ["stays", "many", "thing"] (defScope sIsG) := ⟨rfl, rfl, rfl, by decide +kernel, rfl, by decide +kernel, by decide +kernel⟩
theorem ok_isG {f fN fL fB fO fM fT CS CM : Addr} {fd fdN fdL fdB fdO fdM fdT : FuncData} (F : Fun K "is_giving" "is_giving" sIsG f fd) (T : TxtC mg)
    (GN : FnOk P w K mg base CX0 3 fN fdN ["stays", "many", "thing"] (spNums K)) (gN : mg "numbers_told" = some (.ref fN)) (kN : PySem.W.keepIn K (.ref fN) = true) (bN : Binds K fdN ["stays", "many", "thing"] [])
    (GL : FnOk P w K mg base CX0 1 fL fdL ["stays", "numbers"] spLots) (gL : mg "lots_by_number" = some (.ref fL)) (kL : PySem.W.keepIn K (.ref fL) = true) (bL : Binds K fdL ["stays", "numbers"] [])
    (GB : FnOk P w K mg base CX0 1 fB fdB ["stays"] spBound) (gB : mg "bound_spans" = some (.ref fB)) (kB : PySem.W.keepIn K (.ref fB) = true) (bB : Binds K fdB ["stays"] [])
    (GO : FnOk P w K mg base CX0 2 fO fdO ["spans"] spMost) (gO : mg "most_at_once" = some (.ref fO)) (kO : PySem.W.keepIn K (.ref fO) = true) (bO : Binds K fdO ["spans"] [])
    (GM : FnOk P w K mg base (L2.CX P w) 3 fM fdM ["many"] (spNum K CM "many")) (gM : mg "check_many" = some (.ref fM)) (kM : PySem.W.keepIn K (.ref fM) = true) (bM : Binds K fdM ["many"] [])
    (GT : FnOk P w K mg base (L2.CX P w) 5 fT fdT ["stays"] (spTold K CS)) (gT : mg "told_stays" = some (.ref fT)) (kT : PySem.W.keepIn K (.ref fT) = true) (bT : Binds K fdT ["stays"] []) : FnOk P w K mg base (L2.CX P w) 6 f fd ["stays", "many", "thing"] (spIsG K CS CM) := by
  refine F.okX scIsG (fun vs H Q E h => ?_) (fun cdv A outer s H vs Q E hr h => ?_)
  · obtain ⟨v, m, th, k, r, rfl, _⟩ := h
    rfl
  · obtain ⟨v, m, th, k, r, rfl, ha, hm, hb, q⟩ := h
    have nd := scIsG.nd
    have hr3 := hr.mono (show 3 ≤ 5 by decide)
    have hr2 := hr.mono (show 2 ≤ 5 by decide)
    have hr1 := hr.mono (show 1 ≤ 5 by decide)
    refine ⟨_, pss_cons (ps_set (i := 3) nd rfl (Or.inl rfl) (pe_callS GT hr (by rfl) gT kT bT (fun σ => passAt (takes_of rfl rfl rfl rfl) σ) (pa_cons (pv 0) pa_nil)))
      (pss_cons (ps_expr (pe_callS GM hr3 (by rfl) gM kM bM (fun σ => passAt (takes_of rfl rfl rfl rfl) σ) (pa_cons (pv 1) pa_nil)))
      (pss_cons (ps_set (i := 4) nd rfl (Or.inl rfl) (pe_call GN hr3 (by rfl) gN kN bN .nil pass0 (pa_cons (pv 3) (pa_cons (pv 1) (pa_cons (pv 2) pa_nil)))))
      (pss_cons (ps_if (pt_cmpR op_isN (pv 4) pe_non (nomark _)) (pss_one (ps_ret pe_bl)) pss_nil)
      (pss_one (ps_ret (pe_callB (cr_all rfl) (by rfl) T.all (by decide +kernel) (pa_cons (pe_lc (own := [("lot", 5)]) (g := gName 5) (tt := tYes) rfl nd (pi_list (pe_call GL hr1 (by rfl) gL kL bL .nil pass0 (pa_cons (pv 3) (pa_cons (pv 4) pa_nil)))) (blkOk_by (N := ["stays", "many", "thing", "told", "numbers", "lot"]) (sc := defScope sIsG) (by decide +kernel))
          (fun _ _ _ _ _ => pg_name (i := 5) nd rfl (Or.inl rfl)) (fun _ _ _ _ _ => pts_nil) (fun _ _ _ _ _ => pe_cmpR op_eq (pe_call GO hr2 (by rfl) gO kO bO .nil pass0 (pa_cons (pe_call GB hr1 (by rfl) gB kB bB .nil pass0 (pa_cons (pv 5) pa_nil)) pa_nil)) pe_int (nomark _))) pa_nil))))))), ?_⟩
    refine ⟨_, rfl, ?_⟩
    dsimp only [tNil]
    refine told_arg (E := E) ha hb fun ss er H1 D e1 nD row => ?_
    subst er
    obtain ⟨q1, q2⟩ := q ss rfl
    obtain ⟨g, l⟩ := ha.good
    refine ⟨_, rfl, m, k, rfl, hm.same e1, fun z => (q1 z).same e1, fun z H2 e2 => ?_⟩
    obtain ⟨n, rfl, n0⟩ : ∃ n : Int, m = .int n ∧ 0 ≤ n := by
      cases m with
      | int n => exact ⟨n, rfl, of_decide_eq_true z⟩
      | _ => cases z
    obtain ⟨rt, ht, q3⟩ := q2 n rfl n0
    have e12 := e1.trans e2
    obtain ⟨us, hu, pu⟩ := row.same e2
    have lu := pu.length
    refine ⟨_, rfl, _, rfl, _, rfl, D, us, n, th, rt, rfl, hu, ht.same e12, fun hn H3 e3 => ?_, fun ns hn H3 B e3 nB gB => ?_⟩
    · refine ⟨_, rfl, rfl, _, rfl, iteT ?_⟩
      have q3 := q3 _ (e12.trans e3)
      unfold isGiv at q3
      rw [← lu, hn] at q3
      exact q3
    · refine ⟨_, rfl, rfl, _, rfl, iteF ?_⟩
      have ln := (nums_some hn).1
      have q3 := fun H' (e : Same H3 H') => q3 H' ((e12.trans e3).trans e)
      unfold isGiv at q3
      rw [← lu, hn] at q3
      refine ⟨_, rfl, _, rfl, D, B, ss, ns, rfl, ⟨us, e3 _ _ hu, Paired.imp (fun _ _ z => St.same z e3) pu⟩, gB, by omega, by omega, fun H4 R st e4 nR gR hst hk ls => ?_⟩
      refine ⟨R, rfl, ⟨_, SqL.of gR⟩, fun A nA => ?_⟩
      have lm : ((st.map fun t => decide (OM.most (OM.spans t.2.2) = 1)).map V.bl).length = st.length := by simp
      have lm2 : (st.map fun t => V.ref t.2.1).length = st.length := by rw [List.length_map]
      refine lc_it (walk_list (xs := st.map fun t => V.ref t.2.1)) (AccP A H4 (mapTo ((st.map fun t => decide (OM.most (OM.spans t.2.2) = 1)).map V.bl))) (acc_start rfl) (fun i G _ z => Same.seq (acc_same z (Same.refl H4) nA) (SqL.of gR)) (fun i x G G' hi z y => ?_) (fun G z => ?_)
      · obtain ⟨rfl, hx⟩ := y
        rw [lm2] at hi
        have hti : st[i]? = some st[i] := List.getElem?_eq_getElem hi
        rw [List.getElem?_map, hti] at hx
        obtain rfl := Option.some.inj hx
        have mt : st[i] ∈ st := List.getElem_mem hi
        generalize st[i] = t at hti mt
        obtain ⟨rw1, sl1⟩ := hst t mt
        have gt : Good t.2.2 := fun s ms => by
          rw [sl1] at ms
          obtain ⟨p, mp, rfl⟩ := List.mem_map.mp ms
          exact g p.1 (List.of_mem_zip (List.mem_filter.mp mp).1).1
        have lt : t.2.2.length ≤ 1000 := by
          rw [sl1]
          unfold sel
          rw [List.length_map]
          refine Nat.le_trans (List.length_filter_le _ _) ?_
          rw [List.length_zip]
          omega
        have es := acc_same z (Same.refl H4) nA
        refine ⟨rfl, ?_⟩
        dsimp only [tYes]
        rw [if_pos rfl]
        refine ⟨_, rfl, t.2.1, t.2.2, rfl, rw1.same es, lt, fun G2 D2 e2' n2 pr => ⟨D2, OM.spans t.2.2, rfl, pr, by unfold OM.spans; rw [List.length_map]; omega, OM.spans_ok (good_m gt), fun G3 e3' => ⟨rfl, ?_⟩⟩⟩
        refine acc_in z (e2'.trans e3') (mapTo_len (by rw [lm, sizeLine_eq]; omega)) (mapTo_succ (by
          rw [List.getElem?_map, List.getElem?_map, hti]
          show some (V.bl (decide (OM.most (OM.spans t.2.2) = 1))) = some (V.bl (decide (V.int (OM.most (OM.spans t.2.2)) = V.int 1)))
          congr 2
          by_cases y : OM.most (OM.spans t.2.2) = 1
          · rw [decide_eq_true y, decide_eq_true (by rw [y])]
          · rw [decide_eq_false y, decide_eq_false (fun x => y (V.int.inj x))]))
      · rw [lm2, ← lm] at z
        have gA : G A = some (.lst ((st.map fun t => decide (OM.most (OM.spans t.2.2) = 1)).map V.bl)) := by rw [z.2, mapTo_all]
        have e5 : Same H3 G := e4.trans (acc_same z (Same.refl H4) nA)
        refine ⟨A, _, rfl, SqL.of gA, ?_⟩
        have al : (st.map fun t => decide (OM.most (OM.spans t.2.2) = 1)).all id = OM.apartB ss ns := by
          rw [List.all_map, ← giv_lots g (by omega) (fun t m => (hst t m).2) hk] <;> rfl
        rw [al]
        exact q3 G e5
end
end OB
namespace OB
open PySem PySem.Spec PyProof.Rows L2
theorem begs_at {ss : List S3} {i : Nat} {s : S3} (h : ss[i]? = some s) : begs ss i = s.1 := by
  unfold begs
  rw [h] <;> rfl
theorem run_go {ss : List S3} {many : Int} (g : Good ss) : ∀ (os : List Nat) (bt ns : List Int) (f : List (Option Nat)), OM.Giv ss many bt ns f → OM.Apart ss f → os.Nodup → (∀ i ∈ os, i < ss.length ∧ f[i]? = some none) → (∀ i ∈ os, ∀ (j k : Nat), f[j]? = some (some k) → begs ss j ≤ begs ss i) →
    os.Pairwise (fun i j => begs ss i ≤ begs ss j) →
    (OM.runP ss many os (bt, ns) = none ∧ OM.runL ss many os f = none ∧ ∃ s ∈ ss, many < OM.cB (OM.spans ss) s.1) ∨
    (∃ bt' ns' f', OM.runP ss many os (bt, ns) = some (bt', ns') ∧ OM.runL ss many os f = some f' ∧ OM.Giv ss many bt' ns' f' ∧ OM.Apart ss f' ∧ (∀ i ∈ os, ∃ k : Nat, f'[i]? = some (some k)) ∧ ∀ (i k : Nat), f[i]? = some (some k) → f'[i]? = some (some k))
  | [], bt, ns, f, G, A, _, _, _, _ => .inr ⟨bt, ns, f, rfl, rfl, G, A, (fun i m => (List.not_mem_nil m).elim), fun _ _ h => h⟩
  | i :: os, bt, ns, f, G, A, nd, hi, ah, pw => by
    obtain ⟨il, fi⟩ := hi i (List.mem_cons_self ..)
    have hs : ss[i]? = some ss[i] := List.getElem?_eq_getElem il
    have ms : ss[i] ∈ ss := List.getElem_mem il
    generalize ss[i] = s at hs ms
    have gs := good_last g s ms
    obtain ⟨n1, n2⟩ := List.nodup_cons.mp nd
    obtain ⟨p1, p2⟩ := List.pairwise_cons.mp pw
    have eP : OM.runP ss many (i :: os) (bt, ns) = match OM.stepP many s i (bt, ns) with
        | none => none
        | some y => OM.runP ss many os y := by
      show (match ss[i]? with
        | none => none
        | some s => match OM.stepP many s i (bt, ns) with
          | none => none
          | some y => OM.runP ss many os y) = _
      rw [hs]
    have eL : OM.runL ss many (i :: os) f = match OM.freeL ss f s.1 many with
        | [] => none
        | k :: _ => OM.runL ss many os (f.set i (some k)) := by
      show (match ss[i]? with
        | none => none
        | some s => match OM.freeL ss f s.1 many with
          | [] => none
          | k :: _ => OM.runL ss many os (f.set i (some k))) = _
      rw [hs]
    have il2 : i < f.length := by rw [G.lf]; exact il
    rcases G.step gs hs fi with ⟨k, r, bt', h1, h2, G', old⟩ | ⟨h1, h2, full⟩
    · rw [h2] at eP
      rw [h1] at eL
      have eP : OM.runP ss many (i :: os) (bt, ns) = OM.runP ss many os (bt', ns.set i ((k : Nat) : Int)) := eP
      have eL : OM.runL ss many (i :: os) f = OM.runL ss many os (f.set i (some k)) := eL
      rw [eP, eL]
      have oth : ∀ j m : Nat, (f.set i (some k))[j]? = some (some m) → (j = i) ∨ f[j]? = some (some m) := fun j m e => by
        by_cases z : j = i
        · exact .inl z
        · rw [List.getElem?_set_ne (Ne.symm z)] at e
          exact .inr e
      have w1 : ∀ j ∈ os, j < ss.length ∧ (f.set i (some k))[j]? = some none := fun j mj => by
        obtain ⟨x1, x2⟩ := hi j (List.mem_cons_of_mem _ mj)
        have ne : j ≠ i := fun z => n1 (by rw [← z]; exact mj)
        exact ⟨x1, by rw [List.getElem?_set_ne (Ne.symm ne)]; exact x2⟩
      have w2 : ∀ j ∈ os, ∀ (x m : Nat), (f.set i (some k))[x]? = some (some m) → begs ss x ≤ begs ss j := fun j mj x m e => by
        rcases oth x m e with z | z
        · rw [z]
          exact p1 j mj
        · exact ah j (List.mem_cons_of_mem _ mj) x m z
      rcases run_go g os bt' _ _ G' (OM.apart_put A il2 hs old) n2 w1 w2 p2 with ⟨a, b, c⟩ | ⟨b2, n3, f3, a1, a2, a3, a4, a5, a6⟩
      · exact .inl ⟨a, b, c⟩
      · refine .inr ⟨b2, n3, f3, a1, a2, a3, a4, fun j mj => ?_, fun j m e => a6 j m ?_⟩
        · rcases List.mem_cons.mp mj with z | z
          · subst z
            exact ⟨k, a6 j k (List.getElem?_set_self il2)⟩
          · exact a5 j z
        · have ne : j ≠ i := fun z => by
            rw [z, fi] at e
            cases e
          rw [List.getElem?_set_ne (Ne.symm ne)]
          exact e
    · refine .inl ⟨?_, ?_, s, ms, ?_⟩
      · rw [eP, h2]
      · rw [eL, h1]
      · refine OM.too_many hs gs fi (fun j t k e1 e2 => ?_) full
        have := ah i (List.mem_cons_self ..) j k e1
        rw [begs_at hs, begs_at e2] at this
        exact this
/-- the two ways end alike -/
theorem run_ends {ss : List S3} {many : Int} {os : List Nat} (g : Good ss) (m0 : 0 ≤ many) (o : OM.Order (begs ss) ss.length os) :
    (OM.runP ss many os ([], zeros ss) = none ∧ OM.runL ss many os (List.replicate ss.length none) = none ∧ many < OM.need ss) ∨
    (∃ bt ns f, OM.runP ss many os ([], zeros ss) = some (bt, ns) ∧ OM.runL ss many os (List.replicate ss.length none) = some f ∧ f.map numV? = ns.map V.int ∧ ¬ many < OM.need ss ∧ isGiv ss many (some (ns.map V.int)) = true ∧ ns.length = ss.length ∧ ∀ n ∈ ns, 0 ≤ n ∧ n < many) := by
  have nd : os.Nodup := o.perm.nodup_iff.mpr List.nodup_range
  have mem : ∀ i, i ∈ os ↔ i < ss.length := fun i => by rw [o.perm.mem_iff, List.mem_range]
  have no : ∀ (j k : Nat), (List.replicate ss.length (none : Option Nat))[j]? ≠ some (some k) := fun j k e => by
    rw [List.getElem?_replicate] at e
    split at e <;> cases e
  have ga : ∀ s ∈ ss, ((OM.cB (OM.spans ss) s.1 : Nat) : Int) ≤ OM.need ss := fun s ms => OM.maxL_ge (List.mem_cons_of_mem _ (List.mem_map.mpr ⟨(s.1, s.2.1 + s.2.2), List.mem_map.mpr ⟨s, ms, rfl⟩, rfl⟩))
  rcases run_go g os [] (zeros ss) (List.replicate ss.length none) (OM.Giv.start ss many) (fun i j k s t _ h1 => (no i k h1).elim) nd (fun i mi => ⟨(mem i).mp mi, by rw [List.getElem?_replicate, if_pos ((mem i).mp mi)]⟩) (fun i _ j k e => (no j k e).elim) (o.asc.imp fun {i j} h => by
    have h : begs ss i < begs ss j ∨ (begs ss i = begs ss j ∧ i < j) := h
    omega) with ⟨a, b, s, ms, c⟩ | ⟨bt, ns, f, a1, a2, G, A, all, _⟩
  · have := ga s ms
    exact .inl ⟨a, b, by omega⟩
  · have each : ∀ i, i < ss.length → ∃ k : Nat, f[i]? = some (some k) ∧ k < many.toNat := fun i hi => by
      obtain ⟨k, hk⟩ := all i ((mem i).mpr hi)
      have := (G.le i k _ hk (List.getElem?_eq_getElem hi)).1
      have := G.fit
      exact ⟨k, hk, by omega⟩
    have lf := G.lf
    have ln := G.ln
    have val : ∀ i, i < ss.length → ∃ k : Nat, f[i]? = some (some k) ∧ ns[i]? = some ((k : Nat) : Int) ∧ k < many.toNat := fun i hi => by
      obtain ⟨k, hk, lk⟩ := each i hi
      exact ⟨k, hk, G.no i k hk, lk⟩
    have rng : ∀ n ∈ ns, 0 ≤ n ∧ n < many := fun n mn => by
      obtain ⟨i, hi, rfl⟩ := List.getElem_of_mem mn
      obtain ⟨k, _, e, lk⟩ := val i (by omega)
      rw [List.getElem?_eq_getElem hi] at e
      have := Option.some.inj e
      omega
    have eq : f.map numV? = ns.map V.int := by
      refine List.ext_getElem? fun i => ?_
      rw [List.getElem?_map, List.getElem?_map]
      rcases Nat.lt_or_ge i ss.length with z | z
      · obtain ⟨k, e1, e2, _⟩ := val i z
        rw [e1, e2] <;> rfl
      · rw [List.getElem?_eq_none (by omega), List.getElem?_eq_none (by omega)] <;> rfl
    refine .inr ⟨bt, ns, f, a1, a2, eq, fun c => ?_, ?_, ln, rng⟩
    · have : OM.need ss ≤ many := OM.maxL_le m0 fun x mx => by
        obtain ⟨p, _, rfl⟩ := List.mem_map.mp mx
        have := OM.few_bound A each p.1
        omega
      omega
    · have h1 : (ns.map V.int).all (numB many) = true := List.all_eq_true.mpr fun x mx => by
        obtain ⟨n, mn, rfl⟩ := List.mem_map.mp mx
        obtain ⟨r1, r2⟩ := rng n mn
        show (decide (0 ≤ n) && decide (n < many)) = true
        rw [decide_eq_true r1, decide_eq_true r2] <;> rfl
      have e : numsOf ss.length many (some (ns.map V.int)) = some ((ns.map V.int).map intOf) := if_pos ⟨by rw [List.length_map]; exact ln, h1⟩
      have e2 : (ns.map V.int).map intOf = ns := by rw [List.map_map]; exact List.map_id _
      unfold isGiv
      rw [e, e2]
      refine OM.apart_yes fun i hi j ji => ?_
      rw [Bool.eq_false_iff]
      intro c
      have hj : j < ss.length := by omega
      obtain ⟨k, e3, e4, _⟩ := val i hi
      obtain ⟨m, e5, e6, _⟩ := val j hj
      have c := (OM.clash_meet (good_last g _ (List.getElem_mem hi)) (good_last g _ (List.getElem_mem hj)) (List.getElem?_eq_getElem hi) (List.getElem?_eq_getElem hj) e4 e6).mp c
      obtain ⟨c1, c2⟩ := c
      have km : k = m := by omega
      subst km
      unfold OM.meet at c2
      rcases A i j k _ _ (by omega) e3 e5 (List.getElem?_eq_getElem hi) (List.getElem?_eq_getElem hj) with z | z <;> omega
end OB
/-! a call of a variable that holds one of several defs, each of which may raise -/
namespace OB
open PySem PySem.Spec PyProof.Rows L2
structure HeldX (P : Program) (w : World) (K : PySem.W.Frag) (mg : Str → Option Value) (base : Heap) (CX : CXT) (k : Nat) (f : Addr) (sp : Sp) : Prop where
  ex : ∃ (fd : FuncData) (ps : List Str), FnOk P w K mg base CX k f fd ps sp ∧ PySem.W.keepIn K (.ref f) = true ∧ Binds K fd ps []
def tCallAS (i : Nat) (S : Addr → Option Sp) (E : L2.St → XK) (t : TA) : TE := fun σ H Q => ∃ f sp, σ[i]? = some (some (.ref f)) ∧ S f = some sp ∧ t σ H fun vs H1 => sp vs H1 Q (E σ)
section
variable {X : Cx} {CX : CXT} {k i : Nat} {E : L2.St → XK} {x : Str} {p pos : Pos} {e : Expr} {es : List Expr} {t : TA}
theorem pe_callAS {S : Addr → Option Sp} (A : ∀ f sp, S f = some sp → HeldX X.prog X.w X.K X.mg X.base CX k f sp) (hr : Room k X.A) (hN : X.N[i]? = some x) (hv : Vis X.env.scope x) (hx : ∀ σ, PassesAt CX X σ (E σ)) (ha : PA X (e :: es) t)
    (hdb : (x == ("__debug__" : Str)) = false := by decide) (hcd : (x == ("__classdict__" : Str)) = false := by decide)
    (he : starEach (e :: es) X.env = (false, eval e X.env) :: starEach es X.env := by rfl) (hpl : (backTo pos (starEach es X.env)).any (·.1) = false := by rfl) : PE X (.Call (.Name x p) (e :: es) [] pos) (tCallAS i S E t) := by
  refine ⟨fun pins s σ H Q I h => ?_⟩
  obtain ⟨f, sp, hs, hS, ht⟩ := h
  obtain ⟨fd, ps, F, hk, hb⟩ := (A f sp hS).ex
  refine wpAny_Call_Name_kw (thn ((pe_var (pos := p) hN hv hdb hcd).run pins s σ H (fun v H1 => v = .ref f ∧ H1 = H) I ⟨.ref f, hs, rfl, rfl⟩) fun u s1 ⟨v, H1, I1, r1, q1⟩ => ?_)
  obtain ⟨rfl, rfl⟩ := q1
  cases r1
  refine PySem.W.callWith_K (h₀ := X.base) I.ok.mod.kin hk (thn (ha.run pos pins s1 σ _ _ I1 ht) fun us s2 ⟨vs, H2, I2, r, q⟩ => ⟨I2.kIn, ?_⟩) he hpl
  exact run_fnS F hr hb (hx σ) I2 r q
end
end OB
namespace OB
open PySem PySem.Spec PyProof.Rows L2
/-- what len says of a list or a tuple -/
abbrev lenR (K : PySem.W.Frag) : List V → Hp → VK → Prop := fun xs H Q => ∃ p ys, xs = [V.ref p] ∧ (SqL K H p ys ∨ SqT K H p ys) ∧ Q (V.int ys.length) H
theorem rep_flat (x : V) : ∀ n : Nat, (List.replicate n [x]).flatten = List.replicate n x
  | 0 => rfl
  | n + 1 => by rw [List.replicate_succ, List.flatten_cons, rep_flat x n] <;> rfl
theorem rep_go {H H1 : Hp} {Z : Addr} {x : V} {n : Nat} {Q : VK} (e : Same H H1) (gZ : H1 Z = some (.lst [x])) (l : n ≤ 1000) (q : ∀ H' D, Same H H' → H D = none → H' D = some (.lst (List.replicate n x)) → Q (.ref D) H') : rRep (.ref Z) (.int ((n : Nat) : Int)) H1 Q := by
  refine ⟨Z, ((n : Nat) : Int), [x], rfl, rfl, gZ, by omega, by omega, by rw [sizeLine_eq]; simp; omega, fun D nD => ?_⟩
  refine q _ D (e.trans (Same.new nD)) (e.free nD) ?_
  rw [upd_same, Int.toNat_natCast, rep_flat]
/-- [x] * len(stays) -/
theorem rep_len {K : PySem.W.Frag} {σ : L2.St} {H : Hp} {Q : VK} {tx : TE} {x : V} {a : Addr} {us : List V} (ha : σ[1]? = some (some (.ref a))) (hu : H a = some (.lst us)) (l : us.length ≤ 1000) (hx : ∀ Q' : VK, Q' x H → tx σ H Q')
    (q : ∀ H' D, Same H H' → H D = none → H' D = some (.lst (List.replicate us.length x)) → Q (.ref D) H') : tOp rRep (tLst (tCons tx tNil)) (tCB (lenR K) (tCons (tVar 1) tNil)) σ H Q := by
  refine hx _ ⟨by show 1 ≤ sizeLine; decide, fun Z nZ => ?_⟩
  have e : Same H (upd H Z (.lst [x])) := Same.new nZ
  exact ⟨.ref a, ha, a, us, rfl, .inl (SqL.of (e _ _ hu)), rep_go e upd_same l q⟩
/-- [x] * (len(stays) + 1) -/
theorem rep_len1 {K : PySem.W.Frag} {σ : L2.St} {H : Hp} {Q : VK} {tx : TE} {x : V} {a : Addr} {us : List V} (ha : σ[1]? = some (some (.ref a))) (hu : H a = some (.lst us)) (l : us.length + 1 ≤ 1000) (hx : ∀ Q' : VK, Q' x H → tx σ H Q')
    (q : ∀ H' D, Same H H' → H D = none → H' D = some (.lst (List.replicate (us.length + 1) x)) → Q (.ref D) H') : tOp rRep (tLst (tCons tx tNil)) (tOp (rI0 fun i j => .int (i + j)) (tCB (lenR K) (tCons (tVar 1) tNil)) (tC (.int 1))) σ H Q := by
  refine hx _ ⟨by show 1 ≤ sizeLine; decide, fun Z nZ => ?_⟩
  have e : Same H (upd H Z (.lst [x])) := Same.new nZ
  refine ⟨.ref a, ha, a, us, rfl, .inl (SqL.of (e _ _ hu)), _, _, rfl, rfl, ?_⟩
  show rRep (V.ref Z) (V.int (((us.length : Nat) : Int) + 1)) (upd H Z (.lst [x])) Q
  rw [show ((us.length : Nat) : Int) + 1 = ((us.length + 1 : Nat) : Int) by omega]
  exact rep_go e upd_same l q
theorem flat_any {K : PySem.W.Frag} {H H' : Hp} {x : V} (f : flatV x = true) (h : ∃ k, Any K H x k) : ∃ k, Any K H' x k := by
  obtain ⟨k, h⟩ := h
  cases h with
  | non => exact ⟨_, .non⟩
  | bl b => exact ⟨_, .bl b⟩
  | int i => exact ⟨_, .int i⟩
  | str h => exact ⟨_, .str h⟩
  | _ => cases f
/-- what is told stands, where one other list changes -/
theorem Tells.but {K : PySem.W.Frag} {H H' : Hp} {E : Addr} {x : V} {r : Option (List V)} {ys : List V} (h : Tells K H x r) (hE : H E = some (.lst ys)) (b : ∀ c o, c ≠ E → H c = some o → H' c = some o) (n : x ≠ .ref E) : Tells K H' x r := by
  cases r with
  | none =>
    obtain ⟨k, a, f⟩ := h
    refine ⟨k, ?_, f⟩
    cases a with
    | non => exact .non
    | bl b => exact .bl b
    | int i => exact .int i
    | str h => exact .str h
    | lst h => cases f
    | tup h => cases f
    | dct h => exact .dct (b _ _ (fun z => n (by rw [z])) h)
    | fn q c => exact .fn q c
    | ins q o => exact .ins (b _ _ (fun z => n (by rw [z])) q) o
  | some xs =>
    obtain ⟨a, tp, rfl, h2, h3, h4⟩ := h
    exact ⟨a, tp, rfl, b _ _ (fun z => n (by rw [z])) h2, fun x m => ⟨(h3 x m).1, flat_any (h3 x m).1 (h3 x m).2⟩, h4⟩
/-- a list of one flat value tells itself -/
theorem tells_rep {K : PySem.W.Frag} {H : Hp} {D : Addr} {x : V} {n : Nat} (h : H D = some (.lst (List.replicate n x))) (f : flatV x = true) (ax : ∃ k, Any K H x k) (l : n < 1000) : Tells K H (.ref D) (some (List.replicate n x)) :=
  ⟨D, false, rfl, h, fun y m => by rw [List.eq_of_mem_replicate m]; exact ⟨f, ax⟩, by rw [List.length_replicate]; exact l⟩
/-- a list or tuple of whole numbers is told -/
theorem tells_ints {K : PySem.W.Frag} {H : Hp} {D : Addr} {tp : Bool} {is : List Int} (h : H D = some (mkX tp (is.map V.int))) (l : is.length < 1000) : Tells K H (.ref D) (some (is.map V.int)) :=
  ⟨D, tp, rfl, h, fun y m => by
    obtain ⟨i, _, rfl⟩ := List.mem_map.mp m
    exact ⟨rfl, _, .int i⟩, by rw [List.length_map]; exact l⟩
theorem cut_ints (is : List Int) : ∃ js : List Int, cutV (is.map V.int) none (some (-1)) = js.map V.int ∧ js.length ≤ is.length := by
  unfold cutV
  exact ⟨_, by rw [← List.map_drop, ← List.map_take], by rw [List.length_take, List.length_drop]; omega⟩
end OB
namespace OB
open PySem PySem.Spec PyProof.Rows L2
/-- what is given: none, or a list of as many whole numbers -/
def GivenV (H : Hp) (gv : V) (n : Nat) : Prop := gv = .non ∨ ∃ (D : Addr) (ns : List Int), gv = .ref D ∧ H D = some (.lst (ns.map V.int)) ∧ ns.length = n
section
variable {P : Program} {w : World} {K : PySem.W.Frag} {mg : Str → Option Value} {base : Heap}
end
end OB
theorem List.reverseRecOn' {α : Type} {P : List α → Prop} (l : List α) (nil : P []) (snoc : ∀ b x, P b → P (b ++ [x])) : P l := by
  have : ∀ (r : List α), P r.reverse := fun r => by
    induction r with
    | nil => exact nil
    | cons x r ih => rw [List.reverse_cons]; exact snoc _ _ ih
  have h := this l.reverse
  rwa [List.reverse_reverse] at h
namespace OM
theorem cB_append (a b : List (Int × Int)) (d : Int) : cB (a ++ b) d = cB a d + cB b d := by unfold cB; rw [List.countP_append]
theorem most_le_iff {ps : List (Int × Int)} {m : Int} (m0 : 0 ≤ m) : most ps ≤ m ↔ ∀ p ∈ ps, (cB ps p.1 : Int) ≤ m := by
  constructor
  · intro h p mp
    have : (cB ps p.1 : Int) ≤ most ps := maxL_ge (List.mem_cons_of_mem _ (List.mem_map.mpr ⟨p, mp, rfl⟩))
    omega
  · intro h
    refine maxL_le m0 fun x mx => ?_
    obtain ⟨p, mp, rfl⟩ := List.mem_map.mp mx
    exact h p mp
theorem most_nn (ps : List (Int × Int)) : 0 ≤ most ps := maxL_ge (List.mem_cons_self ..)
/-- at any day no more than at some begin -/
theorem cB_le_most {ps : List (Int × Int)} (g : ∀ p ∈ ps, p.1 ≤ p.2) (d : Int) : (cB ps d : Int) ≤ most ps := by
  by_cases z : cB ps d = 0
  · rw [z]; exact most_nn ps
  · -- the latest begin among those that cover d
    have key : ∀ (qs : List (Int × Int)), (∀ q ∈ qs, q.1 ≤ d ∧ d ≤ q.2) → qs ≠ [] → ∃ b ∈ qs, ∀ q ∈ qs, q.1 ≤ b.1 := fun qs => by
      induction qs with
      | nil => intro _ h; exact absurd rfl h
      | cons q qs ih =>
        intro h _
        by_cases e : qs = []
        · exact ⟨q, List.mem_cons_self .., fun r mr => by rw [e] at mr; rw [List.mem_singleton.mp mr]; exact Int.le_refl _⟩
        · obtain ⟨b, mb, hb⟩ := ih (fun r mr => h r (List.mem_cons_of_mem _ mr)) e
          by_cases c : q.1 ≤ b.1
          · exact ⟨b, List.mem_cons_of_mem _ mb, fun r mr => by
              rcases List.mem_cons.mp mr with y | y
              · rw [y]; exact c
              · exact hb r y⟩
          · exact ⟨q, List.mem_cons_self .., fun r mr => by
              rcases List.mem_cons.mp mr with y | y
              · rw [y]; exact Int.le_refl _
              · have := hb r y; omega⟩
    let qs := ps.filter fun p => decide (p.1 ≤ d) && decide (d ≤ p.2)
    have hq : ∀ q ∈ qs, q.1 ≤ d ∧ d ≤ q.2 := fun q mq => by
      have := (List.mem_filter.mp mq).2
      simpa using this
    have ne : qs ≠ [] := fun e => z (by unfold cB; rw [List.countP_eq_length_filter]; show qs.length = 0; rw [e] <;> rfl)
    obtain ⟨b, mb, hb⟩ := key qs hq ne
    have mb2 := (List.mem_filter.mp mb).1
    have le : cB ps d ≤ cB ps b.1 := by
      unfold cB
      refine List.countP_mono_left fun p mp hp => ?_
      have h2 : p.1 ≤ d ∧ d ≤ p.2 := by simpa using hp
      have h3 := hb p (List.mem_filter.mpr ⟨mp, hp⟩)
      have h4 := hq b mb
      simp
      omega
    have : (cB ps b.1 : Int) ≤ most ps := maxL_ge (List.mem_cons_of_mem _ (List.mem_map.mpr ⟨b, mb2, rfl⟩))
    omega
def lying (ss : List S3) : List (Int × Int) := ss.map fun s => (s.1, s.2.1)
def GoodL (ss : List S3) : Prop := ∀ s ∈ ss, GoodS s
theorem lying_good {ss : List S3} (g : GoodL ss) : ∀ p ∈ lying ss, p.1 ≤ p.2 := fun p mp => by
  obtain ⟨s, ms, rfl⟩ := List.mem_map.mp mp
  have := g s ms
  unfold GoodS at this
  exact this.2.1
theorem bound_good {ss : List S3} (g : GoodL ss) : ∀ p ∈ spans ss, p.1 ≤ p.2 := fun p mp => by
  obtain ⟨s, ms, rfl⟩ := List.mem_map.mp mp
  have := g s ms
  unfold GoodS at this
  show s.1 ≤ s.2.1 + s.2.2
  omega
def shareB (ss : List S3) (many marks : Int) : Bool := decide (most (lying ss) ≤ many) && decide (most (spans ss) ≤ many * marks)
theorem share_iff {ss : List S3} {many marks : Int} : shareB ss many marks = true ↔ most (lying ss) ≤ many ∧ most (spans ss) ≤ many * marks := by
  unfold shareB
  rw [Bool.and_eq_true, decide_eq_true_iff, decide_eq_true_iff]
theorem share1 {ss : List S3} {marks : Int} : shareB ss 1 marks = true ↔ most (lying ss) ≤ 1 ∧ most (spans ss) ≤ marks := by
  rw [share_iff, Int.one_mul]
theorem most_part {a b : List (Int × Int)} : most a ≤ most (a ++ b) := by
  refine maxL_le (most_nn _) fun x mx => ?_
  obtain ⟨p, mp, rfl⟩ := List.mem_map.mp mx
  have : (cB (a ++ b) p.1 : Int) ≤ most (a ++ b) := maxL_ge (List.mem_cons_of_mem _ (List.mem_map.mpr ⟨p, List.mem_append_left _ mp, rfl⟩))
  rw [cB_append] at this
  omega
theorem share_part {a b : List S3} {marks : Int} (h : shareB (a ++ b) 1 marks = true) : shareB a 1 marks = true := by
  rw [share1] at h ⊢
  have e1 : lying (a ++ b) = lying a ++ lying b := by unfold lying; rw [List.map_append]
  have e2 : spans (a ++ b) = spans a ++ spans b := by unfold spans; rw [List.map_append]
  have := most_part (a := lying a) (b := lying b)
  have := most_part (a := spans a) (b := spans b)
  rw [e1, e2] at h
  omega
/-- the law's way to look at one more -/
def letsB (lot : List S3) (s : S3) (marks : Int) : Bool := (!(lot.any fun t => decide ((if s.1 > t.1 then s.1 else t.1) ≤ (if s.2.1 < t.2.1 then s.2.1 else t.2.1)))) && ((lot ++ [s]).all fun t => decide ((cB (spans (lot ++ [s])) t.1 : Int) ≤ marks))
theorem cB_pos {ps : List (Int × Int)} {d : Int} {p : Int × Int} (m : p ∈ ps) (h1 : p.1 ≤ d) (h2 : d ≤ p.2) : 0 < cB ps d := by
  unfold cB
  rw [List.countP_pos_iff]
  exact ⟨p, m, by simp [h1, h2]⟩
theorem cB_none {ps : List (Int × Int)} {d : Int} (h : ∀ p ∈ ps, ¬ (p.1 ≤ d ∧ d ≤ p.2)) : cB ps d = 0 := by
  unfold cB
  rw [List.countP_eq_zero]
  intro p mp
  have := h p mp
  simp
  omega
theorem cB_one (p : Int × Int) (d : Int) : cB [p] d = if p.1 ≤ d ∧ d ≤ p.2 then 1 else 0 := by
  unfold cB
  by_cases h : p.1 ≤ d ∧ d ≤ p.2
  · rw [if_pos h]; simp [h.1, h.2]
  · rw [if_neg h]
    rw [List.countP_eq_zero]
    intro q mq
    rw [List.mem_singleton.mp mq]
    simp
    omega
theorem lets_share {lot : List S3} {s : S3} {marks : Int} (g : GoodL lot) (gs : GoodS s) (m0 : 0 ≤ marks) (ok : most (lying lot) ≤ 1) : letsB lot s marks = shareB (lot ++ [s]) 1 marks := by
  have gl := lying_good g
  have e1 : lying (lot ++ [s]) = lying lot ++ [(s.1, s.2.1)] := by unfold lying; rw [List.map_append] <;> rfl
  have hb : ((lot ++ [s]).all fun t => decide ((cB (spans (lot ++ [s])) t.1 : Int) ≤ marks)) = decide (most (spans (lot ++ [s])) ≤ marks) := by
    rw [Bool.eq_iff_iff, List.all_eq_true, decide_eq_true_iff, most_le_iff m0]
    constructor
    · intro h p mp
      obtain ⟨t, mt, rfl⟩ := List.mem_map.mp mp
      exact of_decide_eq_true (h t mt)
    · intro h t mt
      exact decide_eq_true (h (t.1, t.2.1 + t.2.2) (List.mem_map.mpr ⟨t, mt, rfl⟩))
  have hl : (!(lot.any fun t => decide ((if s.1 > t.1 then s.1 else t.1) ≤ (if s.2.1 < t.2.1 then s.2.1 else t.2.1)))) = decide (most (lying (lot ++ [s])) ≤ 1) := by
    rw [Bool.eq_iff_iff, Bool.not_eq_true', List.any_eq_false, decide_eq_true_iff]
    have gs1 := gs.2.1
    constructor
    · intro h
      have no : ∀ t ∈ lot, s.2.1 < t.1 ∨ t.2.1 < s.1 := fun t mt => by
        have z := h t mt
        have gt : t.1 ≤ t.2.1 := gl (t.1, t.2.1) (List.mem_map.mpr ⟨t, mt, rfl⟩)
        have z : ¬ ((if s.1 > t.1 then s.1 else t.1) ≤ (if s.2.1 < t.2.1 then s.2.1 else t.2.1)) := fun y => by simp [y] at z
        split at z <;> split at z <;> omega
      rw [most_le_iff (by decide), e1]
      intro p mp
      rw [cB_append, cB_one]
      rcases List.mem_append.mp mp with y | y
      · obtain ⟨t, mt, rfl⟩ := List.mem_map.mp y
        have c1 : (cB (lying lot) t.1 : Int) ≤ most (lying lot) := cB_le_most gl _
        have n1 := no t mt
        have gt : t.1 ≤ t.2.1 := gl (t.1, t.2.1) (List.mem_map.mpr ⟨t, mt, rfl⟩)
        show ((cB (lying lot) t.1 + (if s.1 ≤ t.1 ∧ t.1 ≤ s.2.1 then 1 else 0) : Nat) : Int) ≤ 1
        rw [if_neg (by omega)]
        omega
      · rw [List.mem_singleton.mp y]
        show ((cB (lying lot) s.1 + (if s.1 ≤ s.1 ∧ s.1 ≤ s.2.1 then 1 else 0) : Nat) : Int) ≤ 1
        rw [cB_none (fun p mp => by
          obtain ⟨t, mt, rfl⟩ := List.mem_map.mp mp
          have := no t mt
          show ¬ (t.1 ≤ s.1 ∧ s.1 ≤ t.2.1)
          omega)]
        split <;> omega
    · intro h t mt
      rw [e1] at h
      have h2 := (most_le_iff (by decide)).mp h
      intro z
      have z : (if s.1 > t.1 then s.1 else t.1) ≤ (if s.2.1 < t.2.1 then s.2.1 else t.2.1) := of_decide_eq_true z
      have gt : t.1 ≤ t.2.1 := gl (t.1, t.2.1) (List.mem_map.mpr ⟨t, mt, rfl⟩)
      have mt2 : (t.1, t.2.1) ∈ lying lot := List.mem_map.mpr ⟨t, mt, rfl⟩
      by_cases c : s.1 > t.1
      · have p1 := cB_pos (d := s.1) mt2 (by show t.1 ≤ s.1; omega) (by show s.1 ≤ t.2.1; rw [if_pos c] at z; split at z <;> omega)
        have this : ((cB (lying lot ++ [(s.1, s.2.1)]) s.1 : Nat) : Int) ≤ 1 := h2 (s.1, s.2.1) (List.mem_append_right _ (List.mem_singleton.mpr rfl))
        rw [cB_append, cB_one, if_pos (show s.1 ≤ s.1 ∧ s.1 ≤ s.2.1 by omega)] at this
        omega
      · have p1 := cB_pos (d := t.1) mt2 (by show t.1 ≤ t.1; omega) gt
        have this : ((cB (lying lot ++ [(s.1, s.2.1)]) t.1 : Nat) : Int) ≤ 1 := h2 (t.1, t.2.1) (List.mem_append_left _ mt2)
        rw [cB_append, cB_one, if_pos (show s.1 ≤ t.1 ∧ t.1 ≤ s.2.1 by rw [if_neg c] at z; split at z <;> omega)] at this
        omega
  unfold letsB
  rw [hb, hl]
  unfold shareB
  rw [Int.one_mul]
end OM
namespace OM
def sAt (ss : List S3) (i : Nat) : S3 := (ss[i]?).getD (0, 0, 0)
theorem sAt_of {ss : List S3} {i : Nat} {s : S3} (h : ss[i]? = some s) : sAt ss i = s := by
  unfold sAt
  rw [h] <;> rfl
theorem sAt_mem {ss : List S3} {i : Nat} (h : i < ss.length) : sAt ss i ∈ ss := by
  rw [sAt_of (List.getElem?_eq_getElem h)]
  exact List.getElem_mem h
def lotW (ss : List S3) (ns : List Int) (u : Int) : List S3 := OB.sel u (ss.zip ns)
theorem zip_snoc : ∀ {ns : List Int} {ss : List S3} {x : Int}, ns.length < ss.length → ss.zip (ns ++ [x]) = ss.zip ns ++ [(sAt ss ns.length, x)]
  | [], s :: ss, x, _ => by simp [sAt]
  | [], [], x, h => by simp at h
  | n :: ns, [], x, h => by simp at h
  | n :: ns, s :: ss, x, h => by
    have ih := zip_snoc (ns := ns) (ss := ss) (x := x) (by simpa using h)
    show (s, n) :: ss.zip (ns ++ [x]) = (s, n) :: (ss.zip ns ++ [(sAt (s :: ss) (ns.length + 1), x)])
    rw [ih]
    rfl
theorem lotW_snoc {ss : List S3} {ns : List Int} {x u : Int} (h : ns.length < ss.length) : lotW ss (ns ++ [x]) u = lotW ss ns u ++ (if x = u then [sAt ss ns.length] else []) := by
  unfold lotW OB.sel
  rw [zip_snoc h, List.filter_append, List.map_append]
  congr 1
  by_cases z : x = u
  · rw [if_pos z]; simp [z]
  · rw [if_neg z]; simp [z]
theorem lotW_good {ss : List S3} (g : GoodL ss) (ns : List Int) (u : Int) : GoodL (lotW ss ns u) := fun s ms => by
  unfold lotW OB.sel at ms
  obtain ⟨p, mp, rfl⟩ := List.mem_map.mp ms
  exact g _ (List.of_mem_zip (List.mem_filter.mp mp).1).1
def stepB (ss : List S3) (marks : Int) (given : List Int) (u : Int) : Bool := shareB (lotW ss given u ++ [sAt ss given.length]) 1 marks
inductive ValidW (ss : List S3) (marks : Int) : List Int → Prop where
  | nil : ValidW ss marks []
  | snoc {g : List Int} {u : Int} (h : ValidW ss marks g) (s : stepB ss marks g u = true) : ValidW ss marks (g ++ [u])
theorem share_nil {marks : Int} (m0 : 0 ≤ marks) : shareB [] 1 marks = true := by
  rw [share1]
  exact ⟨by decide, m0⟩
theorem snoc_inj {α : Type} {a b : List α} {x y : α} (h : a ++ [x] = b ++ [y]) : a = b ∧ x = y := by
  have := List.append_inj' h rfl
  exact ⟨this.1, by simpa using this.2⟩
theorem ValidW.last {ss : List S3} {marks : Int} {g : List Int} {u : Int} (h : ValidW ss marks (g ++ [u])) : ValidW ss marks g ∧ stepB ss marks g u = true := by
  generalize e : g ++ [u] = r at h
  cases h with
  | nil => simp at e
  | snoc h s =>
    obtain ⟨rfl, rfl⟩ := snoc_inj e
    exact ⟨h, s⟩
theorem ValidW.pre {ss : List S3} {marks : Int} : ∀ {b a : List Int}, ValidW ss marks (a ++ b) → ValidW ss marks a := fun {b} => by
  induction b using List.reverseRecOn' with
  | nil => intro a h; simpa using h
  | snoc b x ih =>
    intro a h
    rw [← List.append_assoc] at h
    exact ih h.last.1
theorem ValidW.lot {ss : List S3} {marks : Int} (m0 : 0 ≤ marks) {g : List Int} (h : ValidW ss marks g) (l : g.length ≤ ss.length) (u : Int) : shareB (lotW ss g u) 1 marks = true := by
  induction h with
  | nil =>
    have : lotW ss [] u = [] := by unfold lotW OB.sel; simp
    rw [this]
    exact share_nil m0
  | @snoc g x h s ih =>
    rw [List.length_append] at l
    have l : g.length + 1 ≤ ss.length := l
    rw [lotW_snoc (by omega)]
    by_cases z : x = u
    · rw [if_pos z, ← z]; exact s
    · rw [if_neg z, List.append_nil]; exact ih (by omega)
theorem step_lets {ss : List S3} {marks : Int} (gd : GoodL ss) (m0 : 0 ≤ marks) {g : List Int} (h : ValidW ss marks g) (l : g.length < ss.length) (u : Int) : letsB (lotW ss g u) (sAt ss g.length) marks = stepB ss marks g u :=
  lets_share (lotW_good gd g u) (gd _ (sAt_mem l)) m0 (share1.mp (h.lot m0 (by omega) u)).1
/-! ### the search -/
def firstL (ss : List S3) (marks : Int) (many : Nat) : Nat → List Int → Option (List Int)
  | 0, g => some g
  | f + 1, g => (List.range many).findSome? fun u : Nat => if stepB ss marks g (u : Int) = true then firstL ss marks many f (g ++ [(u : Int)]) else none
def mxI (g : List Int) : Int := g.foldr max (-1)
theorem mxI_ge : ∀ {g : List Int} {x : Int}, x ∈ g → x ≤ mxI g
  | y :: g, x, m => by
    have e : mxI (y :: g) = max y (mxI g) := rfl
    rw [e]
    rcases List.mem_cons.mp m with z | z
    · omega
    · have := mxI_ge z
      omega
theorem mxI_low : ∀ (g : List Int), -1 ≤ mxI g
  | [] => Int.le_refl _
  | y :: g => by
    have e : mxI (y :: g) = max y (mxI g) := rfl
    have := mxI_low g
    omega
def behW (many : Nat) (g : List Int) : Nat := min many (mxI g + 2).toNat
def firstP (ss : List S3) (marks : Int) (many : Nat) : Nat → List Int → Option (List Int)
  | 0, g => some g
  | f + 1, g => (List.range (behW many g)).findSome? fun u : Nat => if stepB ss marks g (u : Int) = true then firstP ss marks many f (g ++ [(u : Int)]) else none
def ExL (ss : List S3) (marks : Int) (many f : Nat) (g : List Int) : Prop := (firstL ss marks many f g).isSome = true
theorem exL_succ {ss : List S3} {marks : Int} {many f : Nat} {g : List Int} : ExL ss marks many (f + 1) g ↔ ∃ u : Nat, u < many ∧ stepB ss marks g (u : Int) = true ∧ ExL ss marks many f (g ++ [(u : Int)]) := by
  unfold ExL
  show ((List.range many).findSome? _).isSome = true ↔ _
  rw [List.findSome?_isSome_iff]
  constructor
  · rintro ⟨u, mu, h⟩
    by_cases z : stepB ss marks g (u : Int) = true
    · rw [if_pos z] at h
      exact ⟨u, List.mem_range.mp mu, z, h⟩
    · rw [if_neg z] at h
      cases h
  · rintro ⟨u, hu, z, h⟩
    exact ⟨u, List.mem_range.mpr hu, by rw [if_pos z]; exact h⟩
/-- two numbers for one another -/
def swp (a b x : Int) : Int := if x = a then b else if x = b then a else x
theorem swp_inj {a b x y : Int} : swp a b x = swp a b y ↔ x = y := by
  unfold swp
  constructor
  · intro h
    split at h <;> split at h <;> (try split at h) <;> (try split at h) <;> omega
  · rintro rfl; rfl
theorem lotW_swp {ss : List S3} {g : List Int} {a b u : Int} : lotW ss (g.map (swp a b)) (swp a b u) = lotW ss g u := by
  unfold lotW OB.sel
  rw [List.zip_map_right, List.filter_map, List.map_map]
  have e : ((fun p : S3 × Int => decide (p.2 = swp a b u)) ∘ Prod.map id (swp a b)) = fun p => decide (p.2 = u) := by
    funext p
    show decide (swp a b p.2 = swp a b u) = _
    exact decide_eq_decide.mpr swp_inj
  rw [e]
  rfl
theorem ex_swp {ss : List S3} {marks : Int} {many : Nat} {a b : Nat} (ha : a < many) (hb : b < many) : ∀ {f : Nat} {g : List Int}, ExL ss marks many f g → ExL ss marks many f (g.map (swp a b))
  | 0, g, _ => rfl
  | f + 1, g, h => by
    rw [exL_succ] at h ⊢
    obtain ⟨u, hu, s, e⟩ := h
    have e := ex_swp ha hb e
    rw [List.map_append] at e
    have st : stepB ss marks (g.map (swp a b)) (swp a b u) = true := by
      unfold stepB at s ⊢
      rw [lotW_swp, List.length_map]
      exact s
    have key : ∃ v : Nat, v < many ∧ swp a b (u : Int) = (v : Int) := by
      unfold swp
      by_cases z : (u : Int) = a
      · rw [if_pos z]; exact ⟨b, hb, rfl⟩
      · rw [if_neg z]
        by_cases y : (u : Int) = b
        · rw [if_pos y]; exact ⟨a, ha, rfl⟩
        · rw [if_neg y]; exact ⟨u, hu, rfl⟩
    obtain ⟨v, hv, ev⟩ := key
    refine ⟨v, hv, by rw [← ev]; exact st, ?_⟩
    rw [← ev]
    exact e
theorem fs_prefix {α : Type} {F : Nat → Option α} {b : Nat} : ∀ {r : Nat}, ((∀ u, u < b → F u = none) → ∀ u, u < b + r → F u = none) → (List.range b).findSome? F = (List.range (b + r)).findSome? F
  | 0, _ => rfl
  | r + 1, z => by
    have ih := fs_prefix (F := F) (b := b) (r := r) (fun h u hu => z h u (by omega))
    show _ = (List.range (b + r + 1)).findSome? F
    rw [List.range_succ, List.findSome?_append, ← ih]
    cases e : (List.range b).findSome? F with
    | some v => rfl
    | none =>
      have h := List.findSome?_eq_none_iff.mp e
      have := z (fun u hu => h u (List.mem_range.mpr hu)) (b + r) (by omega)
      simp [this]
theorem firstP_eq {ss : List S3} {marks : Int} {many : Nat} : ∀ (f : Nat) (g : List Int), firstP ss marks many f g = firstL ss marks many f g
  | 0, g => rfl
  | f + 1, g => by
    show (List.range (behW many g)).findSome? _ = (List.range many).findSome? _
    have e : (fun u : Nat => if stepB ss marks g (u : Int) = true then firstP ss marks many f (g ++ [(u : Int)]) else none) = fun u : Nat => if stepB ss marks g (u : Int) = true then firstL ss marks many f (g ++ [(u : Int)]) else none := by
      funext u
      rw [firstP_eq f]
    rw [e]
    by_cases z : many ≤ (mxI g + 2).toNat
    · have : behW many g = many := by unfold behW; omega
      rw [this]
    · have low := mxI_low g
      have bh : behW many g = (mxI g + 2).toNat := by unfold behW; omega
      obtain ⟨r, hr⟩ : ∃ r, many = behW many g + r := ⟨many - behW many g, by omega⟩
      have hr2 : (List.range many) = List.range (behW many g + r) := by rw [← hr]
      rw [hr2]
      refine fs_prefix fun no u hu => ?_
      rw [← hr] at hu
      by_cases ub : u < behW many g
      · exact no u ub
      · have nc := no (behW many g - 1) (by omega)
        by_cases s : stepB ss marks g (u : Int) = true
        · rw [if_pos s]
          cases ef : firstL ss marks many f (g ++ [(u : Int)]) with
          | none => rfl
          | some v =>
            exfalso
            have ex : ExL ss marks many f (g ++ [(u : Int)]) := by unfold ExL; rw [ef] <;> rfl
            have ex := ex_swp (a := u) (b := behW many g - 1) hu (by omega) ex
            have fix : g.map (swp (u : Int) ((behW many g - 1 : Nat) : Int)) = g := by
              have : g.map (swp (u : Int) ((behW many g - 1 : Nat) : Int)) = g.map id := List.map_congr_left fun x mx => by
                have := mxI_ge mx
                unfold swp
                rw [if_neg (by omega), if_neg (by omega)] <;> rfl
              rw [this, List.map_id]
            have su : swp (u : Int) ((behW many g - 1 : Nat) : Int) (u : Int) = ((behW many g - 1 : Nat) : Int) := if_pos rfl
            have sc : stepB ss marks g ((behW many g - 1 : Nat) : Int) = true := by
              have l := lotW_swp (ss := ss) (g := g) (a := (u : Int)) (b := ((behW many g - 1 : Nat) : Int)) (u := (u : Int))
              rw [fix, su] at l
              unfold stepB at s ⊢
              rw [l]
              exact s
            rw [if_pos sc] at nc
            rw [List.map_append, fix] at ex
            have ex : ExL ss marks many f (g ++ [swp (u : Int) ((behW many g - 1 : Nat) : Int) (u : Int)]) := ex
            rw [su] at ex
            unfold ExL at ex
            rw [nc] at ex
            cases ex
        · rw [if_neg s]
/-! ### the search is sound and complete -/
theorem first_sound {ss : List S3} {marks : Int} {many : Nat} : ∀ {f : Nat} {g r : List Int}, firstL ss marks many f g = some r → ValidW ss marks g → ValidW ss marks r ∧ r.length = g.length + f ∧ ∀ x ∈ r, x ∈ g ∨ (0 ≤ x ∧ x < (many : Int))
  | 0, g, r, h, v => by
    obtain rfl := Option.some.inj h
    exact ⟨v, rfl, fun x m => .inl m⟩
  | f + 1, g, r, h, v => by
    have h : (List.range many).findSome? _ = some r := h
    obtain ⟨u, mu, hu⟩ := List.exists_of_findSome?_eq_some h
    have mu := List.mem_range.mp mu
    by_cases s : stepB ss marks g (u : Int) = true
    · rw [if_pos s] at hu
      obtain ⟨a, b, c⟩ := first_sound hu (.snoc v s)
      refine ⟨a, by rw [b, List.length_append]; simp; omega, fun x mx => ?_⟩
      rcases c x mx with z | z
      · rcases List.mem_append.mp z with y | y
        · exact .inl y
        · rw [List.mem_singleton.mp y]
          exact .inr ⟨by omega, by omega⟩
      · exact .inr z
    · rw [if_neg s] at hu
      cases hu
theorem first_complete {ss : List S3} {marks : Int} {many : Nat} : ∀ {ext g : List Int}, ValidW ss marks (g ++ ext) → (∀ x ∈ ext, 0 ≤ x ∧ x < (many : Int)) → ExL ss marks many ext.length g
  | [], g, _, _ => rfl
  | x :: ext, g, v, h => by
    have e : g ++ x :: ext = (g ++ [x]) ++ ext := by simp
    rw [e] at v
    have v1 := v.pre.last.2
    obtain ⟨h0, h1⟩ := h x (List.mem_cons_self ..)
    have ex := first_complete v (fun y my => h y (List.mem_cons_of_mem _ my))
    show ExL ss marks many (ext.length + 1) g
    rw [exL_succ]
    have ex2 : ((x.toNat : Nat) : Int) = x := Int.toNat_of_nonneg h0
    exact ⟨x.toNat, by omega, by rw [ex2]; exact v1, by rw [ex2]; exact ex⟩
end OM
namespace OM
/-! ### the search as a loop -/
def Fw (ss : List S3) (marks : Int) (many f : Nat) (g : List Int) (u : Nat) : Option (List Int) := if stepB ss marks g (u : Int) = true then firstP ss marks many f (g ++ [(u : Int)]) else none
def tryW (ss : List S3) (marks : Int) (many f : Nat) (g : List Int) (k : Nat) : Option (List Int) := ((List.range (behW many g)).drop k).findSome? (Fw ss marks many f g)
theorem firstP_try (ss : List S3) (marks : Int) (many f : Nat) (g : List Int) : firstP ss marks many (f + 1) g = tryW ss marks many f g 0 := rfl
theorem try_end {ss : List S3} {marks : Int} {many f : Nat} {g : List Int} {k : Nat} (h : behW many g ≤ k) : tryW ss marks many f g k = none := by
  unfold tryW
  rw [List.drop_eq_nil_of_le (by rw [List.length_range]; exact h)]
  rfl
theorem drop_range {b k : Nat} (h : k < b) : (List.range b).drop k = k :: (List.range b).drop (k + 1) := by
  rw [List.drop_eq_getElem_cons (by rw [List.length_range]; exact h), List.getElem_range]
theorem try_no {ss : List S3} {marks : Int} {many f : Nat} {g : List Int} {k : Nat} (h : k < behW many g) (s : ¬ stepB ss marks g (k : Int) = true) : tryW ss marks many f g k = tryW ss marks many f g (k + 1) := by
  unfold tryW
  rw [drop_range h, List.findSome?_cons]
  have : Fw ss marks many f g k = none := if_neg s
  rw [this]
theorem try_yes {ss : List S3} {marks : Int} {many f : Nat} {g : List Int} {k : Nat} (h : k < behW many g) (s : stepB ss marks g (k : Int) = true) : tryW ss marks many f g k = (firstP ss marks many f (g ++ [(k : Int)])).or (tryW ss marks many f g (k + 1)) := by
  unfold tryW
  rw [drop_range h, List.findSome?_cons]
  have : Fw ss marks many f g k = firstP ss marks many f (g ++ [(k : Int)]) := if_pos s
  rw [this]
  cases firstP ss marks many f (g ++ [(k : Int)]) <;> rfl
def backW (ss : List S3) (marks : Int) (many n : Nat) : List Int → Option (List Int)
  | [] => none
  | x :: r => (tryW ss marks many (n - r.length - 1) r.reverse (x.toNat + 1)).or (backW ss marks many n r)
def resW (ss : List S3) (marks : Int) (many n : Nat) (g : List Int) (k : Nat) : Option (List Int) := (tryW ss marks many (n - g.length - 1) g k).or (backW ss marks many n g.reverse)
section
variable {ss : List S3} {marks : Int} {many n : Nat} {g : List Int} {k : Nat}
theorem back_snoc {x : Int} : backW ss marks many n (g ++ [x]).reverse = resW ss marks many n g (x.toNat + 1) := by
  rw [List.reverse_append]
  show (tryW ss marks many (n - g.reverse.length - 1) g.reverse.reverse (x.toNat + 1)).or (backW ss marks many n g.reverse) = _
  rw [List.length_reverse, List.reverse_reverse]
  rfl
theorem res_start (h : 0 < n) : firstP ss marks many n [] = resW ss marks many n [] 0 := by
  obtain ⟨m, rfl⟩ : ∃ m, n = m + 1 := ⟨n - 1, by omega⟩
  unfold resW
  show tryW ss marks many m [] 0 = (tryW ss marks many (m + 1 - 0 - 1) [] 0).or none
  rw [Option.or_none]
  rfl
theorem res_no (h : k < behW many g) (s : ¬ stepB ss marks g (k : Int) = true) : resW ss marks many n g k = resW ss marks many n g (k + 1) := by
  unfold resW
  rw [try_no h s]
theorem res_push (l : g.length + 1 < n) (h : k < behW many g) (s : stepB ss marks g (k : Int) = true) : resW ss marks many n g k = resW ss marks many n (g ++ [(k : Int)]) 0 := by
  have e1 : resW ss marks many n (g ++ [(k : Int)]) 0 = (tryW ss marks many (n - (g ++ [(k : Int)]).length - 1) (g ++ [(k : Int)]) 0).or (resW ss marks many n g (k + 1)) := by
    have e := back_snoc (ss := ss) (marks := marks) (many := many) (n := n) (g := g) (x := (k : Int))
    rw [Int.toNat_natCast] at e
    rw [← e]
    rfl
  rw [e1, List.length_append]
  unfold resW
  rw [try_yes h s, Option.or_assoc]
  have e2 : n - g.length - 1 = (n - (g.length + [(k : Int)].length) - 1) + 1 := by
    show _ = (n - (g.length + 1) - 1) + 1
    omega
  rw [e2, firstP_try, ← e2]
theorem res_full (l : g.length + 1 = n) (h : k < behW many g) (s : stepB ss marks g (k : Int) = true) : resW ss marks many n g k = some (g ++ [(k : Int)]) := by
  unfold resW
  rw [try_yes h s]
  have : n - g.length - 1 = 0 := by omega
  rw [this]
  rfl
theorem res_pop {x : Int} (h : behW many (g ++ [x]) ≤ k) : resW ss marks many n (g ++ [x]) k = resW ss marks many n g (x.toNat + 1) := by
  rw [← back_snoc]
  unfold resW
  rw [try_end h, Option.none_or]
theorem res_none (h : behW many [] ≤ k) : resW ss marks many n [] k = none := by
  unfold resW
  rw [try_end h] <;> rfl
end
/-! ### lots, and what is valid -/
theorem valid_of_lots {ss : List S3} {marks : Int} {ns : List Int} (l : ns.length ≤ ss.length) (h : ∀ u, shareB (lotW ss ns u) 1 marks = true) : ValidW ss marks ns := by
  induction ns using List.reverseRecOn' with
  | nil => exact .nil
  | snoc g x ih =>
    rw [List.length_append] at l
    have l : g.length + 1 ≤ ss.length := l
    refine .snoc (ih (by omega) fun u => ?_) ?_
    · have := h u
      rw [lotW_snoc (by omega)] at this
      exact share_part this
    · have := h x
      rw [lotW_snoc (by omega), if_pos rfl] at this
      exact this
theorem law_valid {ss : List S3} {marks : Int} {ns : List Int} (gd : GoodL ss) (m0 : 0 ≤ marks) (l : ns.length ≤ ss.length) : (∀ k x, ns[k]? = some x → letsB (lotW ss (ns.take k) x) (sAt ss k) marks = true) ↔ ValidW ss marks ns := by
  constructor
  · intro h
    have key : ∀ k, k ≤ ns.length → ValidW ss marks (ns.take k) := fun k => by
      induction k with
      | zero => intro _; rw [List.take_zero]; exact .nil
      | succ k ih =>
        intro hk
        have v := ih (by omega)
        have hx : ns[k]? = some ns[k] := List.getElem?_eq_getElem (by omega)
        have e : ns.take (k + 1) = ns.take k ++ [ns[k]] := by rw [List.take_add_one, hx] <;> rfl
        rw [e]
        refine .snoc v ?_
        have lt : (ns.take k).length = k := by rw [List.length_take]; omega
        have s := step_lets gd m0 v (by omega) ns[k]
        rw [lt] at s
        rw [← s]
        exact h k _ hx
    have := key ns.length (Nat.le_refl _)
    rwa [List.take_length] at this
  · intro v k x hx
    have hk := (List.getElem?_eq_some_iff.mp hx).1
    have e : ns.take (k + 1) = ns.take k ++ [x] := by rw [List.take_add_one, hx] <;> rfl
    have e2 : ns = (ns.take k ++ [x]) ++ ns.drop (k + 1) := by rw [← e, List.take_append_drop]
    rw [e2] at v
    obtain ⟨v1, s1⟩ := v.pre.last
    have lt : (ns.take k).length = k := by rw [List.length_take]; omega
    have s := step_lets gd m0 v1 (by omega) x
    rw [lt] at s
    rw [s]
    exact s1
theorem split_count {α : Type} {q t : α → Bool} : ∀ (l : List α), l.countP q = (l.filter t).countP q + (l.filter fun x => !t x).countP q
  | [] => rfl
  | x :: l => by
    have ih := split_count (q := q) (t := t) l
    cases ht : t x <;> cases hq : q x <;> simp [ht, hq, ih] <;> omega
theorem count_parts {q : S3 → Bool} {c : Nat} : ∀ {many : Nat} {pr : List (S3 × Int)}, (∀ p ∈ pr, 0 ≤ p.2 ∧ p.2 < (many : Int)) → (∀ u : Nat, u < many → (pr.filter fun p => decide (p.2 = (u : Int))).countP (fun p => q p.1) ≤ c) → pr.countP (fun p => q p.1) ≤ many * c
  | 0, pr, hr, _ => by
    have : pr = [] := by
      cases pr with
      | nil => rfl
      | cons p pr => have := hr p (List.mem_cons_self ..); omega
    rw [this]
    simp
  | many + 1, pr, hr, h => by
    rw [split_count (t := fun p => decide (p.2 = (many : Int))) pr]
    have h1 := h many (by omega)
    have h2 := count_parts (q := q) (c := c) (many := many) (pr := pr.filter fun x => !decide (x.2 = (many : Int))) (fun p mp => by
      obtain ⟨a, b⟩ := List.mem_filter.mp mp
      have := hr p a
      have b : ¬ p.2 = (many : Int) := by simpa using b
      omega) (fun u hu => by
        have h3 := h u (by omega)
        have e : ((pr.filter fun x => !decide (x.2 = (many : Int))).filter fun p => decide (p.2 = (u : Int))) = pr.filter fun p => decide (p.2 = (u : Int)) := by
          rw [List.filter_filter]
          refine List.filter_congr fun p _ => ?_
          by_cases z : p.2 = (u : Int)
          · have : ¬ p.2 = (many : Int) := by omega
            simp [z]
            omega
          · simp [z]
        rw [e]
        exact h3)
    rw [Nat.succ_mul]
    omega
theorem cB_zip {ss : List S3} {ns : List Int} (l : ns.length = ss.length) (q : S3 → Bool) : ss.countP q = (ss.zip ns).countP fun p => q p.1 := by
  have : (ss.zip ns).map Prod.fst = ss := List.map_fst_zip (by omega)
  conv => lhs; rw [← this]
  rw [List.countP_map]
  rfl
theorem cB_lot {ss : List S3} {ns : List Int} {u : Int} (q : S3 → Bool) : (lotW ss ns u).countP q = ((ss.zip ns).filter fun p => decide (p.2 = u)).countP fun p => q p.1 := by
  unfold lotW OB.sel
  rw [List.countP_map]
  rfl
theorem share_all {ss : List S3} {marks : Int} {many : Nat} {ns : List Int} (gd : GoodL ss) (m0 : 0 ≤ marks) (v : ValidW ss marks ns) (l : ns.length = ss.length) (hr : ∀ x ∈ ns, 0 ≤ x ∧ x < (many : Int)) : shareB ss (many : Int) marks = true := by
  have lots := fun u => share1.mp (v.lot m0 (by omega) u)
  have hz : ∀ p ∈ ss.zip ns, 0 ≤ p.2 ∧ p.2 < (many : Int) := fun p mp => hr _ (List.of_mem_zip mp).2
  have hc : ∀ (d : Int), cB (lying ss) d ≤ many * 1 := fun d => by
    have e : ∀ L : List S3, cB (lying L) d = L.countP fun s => decide (s.1 ≤ d) && decide (d ≤ s.2.1) := fun L => by unfold cB lying; rw [List.countP_map] <;> rfl
    rw [e, cB_zip l]
    refine count_parts (q := fun s => decide (s.1 ≤ d) && decide (d ≤ s.2.1)) hz fun u hu => ?_
    have h1 := cB_le_most (lying_good (lotW_good gd ns u)) d
    have h2 := (lots u).1
    rw [e, cB_lot (fun s => decide (s.1 ≤ d) && decide (d ≤ s.2.1))] at h1
    omega
  have hd : ∀ (d : Int), cB (spans ss) d ≤ many * marks.toNat := fun d => by
    have e : ∀ L : List S3, cB (spans L) d = L.countP fun s => decide (s.1 ≤ d) && decide (d ≤ s.2.1 + s.2.2) := fun L => by unfold cB spans; rw [List.countP_map] <;> rfl
    rw [e, cB_zip l]
    refine count_parts (q := fun s => decide (s.1 ≤ d) && decide (d ≤ s.2.1 + s.2.2)) hz fun u hu => ?_
    have h1 := cB_le_most (bound_good (lotW_good gd ns u)) d
    have h2 := (lots u).2
    rw [e, cB_lot (fun s => decide (s.1 ≤ d) && decide (d ≤ s.2.1 + s.2.2))] at h1
    omega
  rw [share_iff]
  constructor
  · rw [most_le_iff (by omega)]
    intro p _
    have := hc p.1
    omega
  · have mm : 0 ≤ (many : Int) * marks := Int.mul_nonneg (by omega) m0
    rw [most_le_iff mm]
    intro p _
    have h := hd p.1
    have e : ((many * marks.toNat : Nat) : Int) = (many : Int) * marks := by rw [Int.natCast_mul, Int.toNat_of_nonneg m0]
    omega
/-- the search with its look ahead is the plain search -/
theorem first_all {ss : List S3} {marks : Int} {many : Nat} (gd : GoodL ss) (m0 : 0 ≤ marks) (no : ¬ shareB ss (many : Int) marks = true) : firstL ss marks many ss.length [] = none := by
  cases e : firstL ss marks many ss.length [] with
  | none => rfl
  | some r =>
    exfalso
    obtain ⟨a, b, c⟩ := first_sound e .nil
    exact no (share_all gd m0 a (by rw [b]; simp) fun x mx => (c x mx).resolve_left (by simp))
/-! ### marks -/
theorem step_marks {ss : List S3} {m1 m2 : Int} {g : List Int} {u : Int} (h : stepB ss m1 g u = true) (le : m1 ≤ m2 ∨ ((lotW ss g u).length + 1 : Int) ≤ m2) : stepB ss m2 g u = true := by
  unfold stepB at h ⊢
  rw [share1] at h ⊢
  refine ⟨h.1, ?_⟩
  rcases le with z | z
  · omega
  · refine maxL_le (by omega) fun x mx => ?_
    obtain ⟨p, _, rfl⟩ := List.mem_map.mp mx
    have : cB (spans (lotW ss g u ++ [sAt ss g.length])) p.1 ≤ (spans (lotW ss g u ++ [sAt ss g.length])).length := List.countP_le_length
    unfold spans at this
    rw [List.length_map, List.length_append] at this
    have e : [sAt ss g.length].length = 1 := rfl
    rw [e] at this
    unfold spans
    omega
theorem lotW_len {ss : List S3} {ns : List Int} {u : Int} : (lotW ss ns u).length ≤ ns.length := by
  unfold lotW OB.sel
  rw [List.length_map]
  refine Nat.le_trans (List.length_filter_le _ _) ?_
  rw [List.length_zip]
  omega
theorem valid_marks {ss : List S3} {m1 m2 : Int} {g : List Int} (v : ValidW ss m1 g) (le : m1 ≤ m2 ∨ (g.length : Int) ≤ m2) : ValidW ss m2 g := by
  induction v with
  | nil => exact .nil
  | @snoc g u h s ih =>
    have le2 : m1 ≤ m2 ∨ ((g.length + 1 : Nat) : Int) ≤ m2 := le.imp id (fun z => by rw [List.length_append] at z; exact z)
    refine .snoc (ih (le2.imp id fun z => by omega)) (step_marks s (le2.imp id fun z => ?_))
    have := lotW_len (ss := ss) (ns := g) (u := u)
    omega
def solB (ss : List S3) (many : Nat) (marks : Nat) : Prop := ExL ss (marks : Int) many ss.length []
theorem sol_iff {ss : List S3} {many marks : Nat} : solB ss many marks ↔ ∃ r, ValidW ss (marks : Int) r ∧ r.length = ss.length ∧ ∀ x ∈ r, 0 ≤ x ∧ x < (many : Int) := by
  constructor
  · intro h
    unfold solB ExL at h
    obtain ⟨r, e⟩ := Option.isSome_iff_exists.mp h
    obtain ⟨a, b, c⟩ := first_sound e .nil
    exact ⟨r, a, by rw [b]; simp, fun x mx => (c x mx).resolve_left (by simp)⟩
  · rintro ⟨r, a, b, c⟩
    have := first_complete (ext := r) (g := []) (by simpa using a) c
    unfold solB
    rw [← b]
    exact this
theorem sol_mono {ss : List S3} {many m1 m2 : Nat} (h : solB ss many m1) (le : m1 ≤ m2 ∨ ss.length ≤ m2) : solB ss many m2 := by
  rw [sol_iff] at h ⊢
  obtain ⟨r, a, b, c⟩ := h
  exact ⟨r, valid_marks a (le.imp (fun z => by omega) (fun z => by omega)), b, c⟩
/-- so many marks are needed -/
def NeedM (ss : List S3) (many : Nat) (o : Option Nat) : Prop := match o with
  | none => ∀ k, 1 ≤ k → k ≤ max 1 ss.length → ¬ solB ss many k
  | some m => 1 ≤ m ∧ m ≤ max 1 ss.length ∧ solB ss many m ∧ ∀ k, 1 ≤ k → k < m → ¬ solB ss many k
theorem NeedM.one {ss : List S3} {many : Nat} {a b : Option Nat} (h : NeedM ss many a) (g : NeedM ss many b) : a = b := by
  cases a with
  | none =>
    cases b with
    | none => rfl
    | some m => exact absurd g.2.2.1 (h m g.1 g.2.1)
  | some m =>
    cases b with
    | none => exact absurd h.2.2.1 (g m h.1 h.2.1)
    | some k =>
      rcases Nat.lt_trichotomy m k with z | z | z
      · exact absurd h.2.2.1 (g.2.2.2 m h.1 z)
      · rw [z]
      · exact absurd g.2.2.1 (h.2.2.2 k g.1 z)
end OM
namespace OM
theorem sBeg (ss : List S3) (i : Nat) : OB.begs ss i = (sAt ss i).1 := by
  unfold sAt OB.begs
  cases ss[i]? <;> rfl
def leO (b : Nat → Int) (i j : Nat) : Bool := decide (b i < b j) || (decide (b i = b j) && decide (i ≤ j))
theorem leO_iff {b : Nat → Int} {i j : Nat} : leO b i j = true ↔ b i < b j ∨ (b i = b j ∧ i ≤ j) := by
  unfold leO
  rw [Bool.or_eq_true, Bool.and_eq_true, decide_eq_true_iff, decide_eq_true_iff, decide_eq_true_iff]
def ordS (ss : List S3) : List Nat := (List.range ss.length).mergeSort (leO (OB.begs ss))
theorem ordS_ok (ss : List S3) : Order (OB.begs ss) ss.length (ordS ss) := by
  have p : (ordS ss).Perm (List.range ss.length) := List.mergeSort_perm _ _
  have nd : (ordS ss).Nodup := p.nodup_iff.mpr List.nodup_range
  have pw : (ordS ss).Pairwise (fun i j => leO (OB.begs ss) i j = true) := by
    refine List.pairwise_mergeSort (fun i j k h1 h2 => ?_) (fun i j => ?_) _
    · rw [leO_iff] at *
      omega
    · rw [Bool.or_eq_true, leO_iff, leO_iff]
      omega
  refine ⟨p, (pw.and nd).imp fun {i j} h => ?_⟩
  obtain ⟨h1, h2⟩ := h
  rw [leO_iff] at h1
  unfold Ahead
  omega
theorem lying_le {ss : List S3} (g : GoodL ss) : most (lying ss) ≤ most (spans ss) := by
  refine maxL_le (most_nn _) fun x mx => ?_
  obtain ⟨p, mp, rfl⟩ := List.mem_map.mp mx
  have h1 := cB_le_most (bound_good g) p.1
  have h2 : cB (lying ss) p.1 ≤ cB (spans ss) p.1 := by
    unfold cB lying spans
    rw [List.countP_map, List.countP_map]
    refine List.countP_mono_left fun s ms hs => ?_
    have gs := g s ms
    unfold GoodS at gs
    have hs : (decide (s.1 ≤ p.1) && decide (p.1 ≤ s.2.1)) = true := hs
    rw [Bool.and_eq_true, decide_eq_true_iff, decide_eq_true_iff] at hs
    show (decide (s.1 ≤ p.1) && decide (p.1 ≤ s.2.1 + s.2.2)) = true
    rw [Bool.and_eq_true, decide_eq_true_iff, decide_eq_true_iff]
    omega
  omega
theorem full_iff {ss : List S3} {n : Int} (n0 : 0 ≤ n) : fullD (spans ss) n = none ↔ ¬ n < need ss := by
  unfold fullD need
  rw [List.min?_eq_none_iff, List.filter_eq_nil_iff]
  have e := most_le_iff (ps := spans ss) n0
  constructor
  · intro h z
    have : most (spans ss) ≤ n := e.mpr fun p mp => by
      have := h p.1 (List.mem_map.mpr ⟨p, mp, rfl⟩)
      have : ¬ n < (cB (spans ss) p.1 : Int) := fun y => this (decide_eq_true y)
      omega
    omega
  · intro h d md z
    obtain ⟨p, mp, rfl⟩ := List.mem_map.mp md
    have := e.mp (by omega) p mp
    have z := of_decide_eq_true z
    omega
end OM
namespace OB
open PySem PySem.Spec PyProof.Rows L2
theorem goodL {ss : List S3} (g : Good ss) : OM.GoodL ss := fun s m => g s m
theorem giv_nums {ss : List S3} {many : Nat} {ns : List Int} (l : ns.length = ss.length) (hr : ∀ x ∈ ns, 0 ≤ x ∧ x < (many : Int)) : isGiv ss (many : Int) (some (ns.map V.int)) = OM.apartB ss ns := by
  have h1 : (ns.map V.int).all (numB (many : Int)) = true := List.all_eq_true.mpr fun x mx => by
    obtain ⟨n, mn, rfl⟩ := List.mem_map.mp mx
    obtain ⟨r1, r2⟩ := hr n mn
    show (decide (0 ≤ n) && decide (n < (many : Int))) = true
    rw [decide_eq_true r1, decide_eq_true r2] <;> rfl
  have e : numsOf ss.length (many : Int) (some (ns.map V.int)) = some ((ns.map V.int).map intOf) := if_pos ⟨by rw [List.length_map]; exact l, h1⟩
  have e2 : (ns.map V.int).map intOf = ns := by rw [List.map_map]; exact List.map_id _
  unfold isGiv
  rw [e, e2]
theorem zip_good {ss : List S3} (g : Good ss) (ns : List Int) : ∀ p ∈ ss.zip ns, p.1.1 ≤ OM.lastD p.1 := fun p mp => good_last g _ (List.of_mem_zip mp).1
/-- with one mark: a giving -/
theorem one_sol {ss : List S3} {many : Nat} (g : Good ss) : OM.solB ss many 1 ↔ ¬ (many : Int) < OM.need ss := by
  constructor
  · intro h
    obtain ⟨r, a, b, c⟩ := OM.sol_iff.mp h
    have := OM.share_iff.mp (OM.share_all (goodL g) (by decide) a b c)
    unfold OM.need
    omega
  · intro h
    rcases run_ends g (show (0 : Int) ≤ (many : Int) by omega) (OM.ordS_ok ss) with ⟨_, _, z⟩ | ⟨_, ns, _, _, _, _, _, gv, l, hr⟩
    · exact absurd z h
    · rw [giv_nums l hr] at gv
      have pw := (OB.apart_pair g l).mp gv
      refine OM.sol_iff.mpr ⟨ns, OM.valid_of_lots (by omega) fun u => ?_, l, hr⟩
      have le : OM.most (OM.spans (OM.lotW ss ns u)) ≤ 1 := by
        by_cases hu : u ∈ (ss.zip ns).map Prod.snd
        · have := most_sel (zip_good g ns) pw hu
          unfold OM.lotW
          omega
        · have : OM.lotW ss ns u = [] := by
            unfold OM.lotW sel
            rw [List.filter_eq_nil_iff.mpr fun p mp => by
              intro z
              exact hu (List.mem_map.mpr ⟨p, mp, of_decide_eq_true z⟩)]
            rfl
          rw [this]
          decide
      rw [OM.share1]
      have := OM.lying_le (OM.lotW_good (goodL g) ns u)
      exact ⟨by omega, le⟩
theorem one_giv {ss : List S3} {many : Nat} {ns : List Int} (g : Good ss) (v : OM.ValidW ss 1 ns) (l : ns.length = ss.length) (hr : ∀ x ∈ ns, 0 ≤ x ∧ x < (many : Int)) : isGiv ss (many : Int) (some (ns.map V.int)) = true := by
  rw [giv_nums l hr, OB.apart_pair g l]
  refine sel_most fun n hn => ?_
  have h1 := (OM.share1.mp (v.lot (by decide) (by omega) n)).2
  have h1 : OM.most (OM.spans (sel n (ss.zip ns))) ≤ 1 := h1
  obtain ⟨p, mp, rfl⟩ := List.mem_map.mp hn
  have ms : p.1 ∈ sel p.2 (ss.zip ns) := List.mem_map.mpr ⟨p, List.mem_filter.mpr ⟨mp, by simp⟩, rfl⟩
  have h2 : (OM.cB (OM.spans (sel p.2 (ss.zip ns))) p.1.1 : Int) ≤ OM.most (OM.spans (sel p.2 (ss.zip ns))) := OM.maxL_ge (List.mem_cons_of_mem _ (List.mem_map.mpr ⟨(p.1.1, p.1.2.1 + p.1.2.2), List.mem_map.mpr ⟨p.1, ms, rfl⟩, rfl⟩))
  have h3 : 0 < OM.cB (OM.spans (sel p.2 (ss.zip ns))) p.1.1 := OM.cB_pos (p := (p.1.1, p.1.2.1 + p.1.2.2)) (List.mem_map.mpr ⟨p.1, ms, rfl⟩) (Int.le_refl _) (zip_good g ns p mp)
  omega
end OB
namespace OB
open PySem PySem.Spec PyProof.Rows L2 LamX
abbrev sIsOne : Stmt := top 3
abbrev sCkOne : Stmt := top 25
/-! ### a call of a variable that holds a def which may raise -/
def tCallAH (P : Program) (w : World) (K : PySem.W.Frag) (mg : Str → Option Value) (base : Heap) (CX : CXT) (k i : Nat) (E : L2.St → XK) (t : TA) : TE := fun σ H Q => ∃ f sp, σ[i]? = some (some (.ref f)) ∧ HeldX P w K mg base CX k f sp ∧ t σ H fun vs H1 => sp vs H1 Q (E σ)
section
variable {X : Cx} {CX : CXT} {k i : Nat} {E : L2.St → XK} {x : Str} {p pos : Pos} {e : Expr} {es : List Expr} {t : TA}
theorem pe_callAH (hr : Room k X.A) (hN : X.N[i]? = some x) (hv : Vis X.env.scope x) (hx : ∀ σ, PassesAt CX X σ (E σ)) (ha : PA X (e :: es) t)
    (hdb : (x == ("__debug__" : Str)) = false := by decide) (hcd : (x == ("__classdict__" : Str)) = false := by decide)
    (he : starEach (e :: es) X.env = (false, eval e X.env) :: starEach es X.env := by rfl) (hpl : (backTo pos (starEach es X.env)).any (·.1) = false := by rfl) : PE X (.Call (.Name x p) (e :: es) [] pos) (tCallAH X.prog X.w X.K X.mg X.base CX k i E t) := by
  refine ⟨fun pins s σ H Q I h => ?_⟩
  obtain ⟨f, sp, hs, hS, ht⟩ := h
  obtain ⟨fd, ps, F, hk, hb⟩ := hS.ex
  refine wpAny_Call_Name_kw (thn ((pe_var (pos := p) hN hv hdb hcd).run pins s σ H (fun v H1 => v = .ref f ∧ H1 = H) I ⟨.ref f, hs, rfl, rfl⟩) fun u s1 ⟨v, H1, I1, r1, q1⟩ => ?_)
  obtain ⟨rfl, rfl⟩ := q1
  cases r1
  refine PySem.W.callWith_K (h₀ := X.base) I.ok.mod.kin hk (thn (ha.run pos pins s1 σ _ _ I1 ht) fun us s2 ⟨vs, H2, I2, r, q⟩ => ⟨I2.kIn, ?_⟩) he hpl
  exact run_fnS F hr hb (hx σ) I2 r q
end
theorem FS.bs {TT : List (Addr × Str)} {p F : Addr} {n m : Nat} {H0 G G' : Hp} {rs : List V} {ws : List (Str × V)} (h : FS TT p n H0 F rs ws G) (e : ButS p G G') (S : Src m G' p) : FS TT p m H0 F rs ws G' :=
  ⟨h.s.bs e S, h.new, h.np, e _ _ h.np h.at_, Paired.imp (fun r y z => by
    obtain ⟨T, er, hT⟩ := z
    refine ⟨T, er, e _ _ (fun w => ?_) hT⟩
    obtain ⟨a, b, c, hp, _⟩ := h.s.src
    rw [w, hp] at hT
    simp at hT) h.res, h.notF⟩
theorem val_mid {t : TE} {σ : L2.St} {H : Hp} {Q : VK} (Cond : V → Hp → Prop) (h1 : ∀ K : VK, (∀ v G, Cond v G → K v G) → t σ H K) (h2 : ∀ v G, Cond v G → Q v G) : t σ H Q := h1 Q h2
/-- from 1 on -/
def oneV (x : V) : Bool := match x with
  | .int i => decide (1 ≤ i)
  | _ => false
theorem oneV_eq (x : V) (k : Kd) : numFrom 1 x k = oneV x := by cases x <;> rfl
def spOne (K : PySem.W.Frag) (C : Addr) : Sp := fun vs H Q E => ∃ (v : V) (k : Kd), vs = [v] ∧ Any K H v k ∧ (oneV v = false → Bad E H C "many" v) ∧ (oneV v = true → ∀ H', Same H H' → Q .non H')
section
variable {P : Program} {w : World} {K : PySem.W.Frag} {mg : Str → Option Value} {base : Heap}
theorem scIsOne : FnScope ["thing"] ["thing"] (defScope sIsOne) := ⟨rfl, rfl, rfl, by decide +kernel, rfl, by decide +kernel, by decide +kernel⟩
theorem ok_isOne {f fI : Addr} {fd fdI : FuncData} (F : Fun K "is_from_one" "is_from_one" sIsOne f fd) (FI : Fun K "is_integer" "is_integer" sIsInt fI fdI) (gI : mg "is_integer" = some (.ref fI)) (T : TxtC mg) : FnOk P w K mg base CX0 2 f fd ["thing"] (spAsk K (numFrom 1)) := by
  have GI : FnOk P w K mg base CX0 1 fI fdI ["thing"] (spAsk K fInt) := ok_isInt FI T
  have bI : Binds K fdI ["thing"] [] := FI.binds fun _ _ _ _ _ _ us hl => match us, hl with | [_], _ => rfl
  refine F.ok scIsOne (fun vs H Q E h => ?_) (fun cdv A outer s H vs Q E hr h => ?_)
  · obtain ⟨v, k, rfl, _⟩ := h
    rfl
  · obtain ⟨v, k, rfl, a, q⟩ := h
    refine ⟨_, pss_one (ps_ret (pe_and (pe_call GI hr (by rfl) gI FI.kp bI .nil pass0 (pa_cons (pv 0) pa_nil)) (pe_one (pe_cmpR op_ge (pv 0) pe_int (nomark _))))), ?_⟩
    refine ⟨_, rfl, v, k, rfl, a, fun H' e => ⟨_, rfl, ?_⟩⟩
    have q' := q H' e
    cases a with
    | int i => exact iteT ⟨_, rfl, i, 1, rfl, rfl, q'⟩
    | _ => exact iteF q'
theorem scCkOne : FnScope ["many"] ["many"] (defScope sCkOne) := ⟨rfl, rfl, rfl, by decide +kernel, rfl, by decide +kernel, by decide +kernel⟩
theorem ok_one {f fN C fI : Addr} {fd fdN : FuncData} (F : Fun K "check_from_one" "check_from_one" sCkOne f fd)
    (GN : FnOk P w K mg base CX0 2 fN fdN ["thing"] (spAsk K (numFrom 1))) (gN : mg "is_from_one" = some (.ref fN)) (kN : PySem.W.keepIn K (.ref fN) = true) (bN : Binds K fdN ["thing"] [])
    (EA : ErrK P K mg "BadMany" C fI "many") (htop : (P.main.scope.names.lookup ("super" : Str)).isSome = false) : FnOk P w K mg base (L2.CX P w) 3 f fd ["many"] (spOne K C) := by
  refine F.okX scCkOne (fun vs H Q E h => ?_) (fun cdv A outer s H vs Q E hr h => ?_)
  · obtain ⟨v, k, rfl, _⟩ := h
    rfl
  · obtain ⟨v, k, rfl, av, hbad, q⟩ := h
    refine ⟨_, pss_one (ps_if (pt_not (pt_val (pe_call GN hr (by rfl) gN kN bN .nil pass0 (pa_cons (pv 0) pa_nil))))
        (pss_one (ps_raise rfl (takes_of rfl rfl rfl rfl) (pmk_err EA.T EA.B hr htop (by rfl) EA.g EA.k EA.ex EA.ty (by exact (pa_cons (pv 0) pa_nil)) rfl))) pss_nil), ?_⟩
    refine ⟨_, rfl, v, k, rfl, av, fun H1 e1 => ⟨_, rfl, ?_⟩⟩
    rw [oneV_eq]
    cases hn : oneV v with
    | false => exact iteT ⟨_, rfl, _, rfl, fun d nd => ((hbad hn).same e1).raise d nd⟩
    | true => exact iteF (q hn _ e1)
end
theorem one_nat {m : V} (h : oneV m = true) : ∃ n : Nat, m = .int (n : Nat) ∧ 0 < n := by
  cases m with
  | int i =>
    have z : decide (1 ≤ i) = true := h
    have z := of_decide_eq_true z
    exact ⟨i.toNat, by rw [Int.toNat_of_nonneg (by omega)], by omega⟩
  | _ => cases h
abbrev sLying : Stmt := top 27
abbrev sShare : Stmt := top 28
def spLying : Sp := fun vs H Q _ => ∃ (a : Addr) (ss : List S3), vs = [.ref a] ∧ Row H a ss ∧ ss.length ≤ 1000 ∧ ∀ H' D, Same H H' → H D = none → PRow H' D (OM.lying ss) → Q (.ref D) H'
def spShare : Sp := fun vs H Q _ => ∃ (a : Addr) (ss : List S3) (many marks : Nat), vs = [.ref a, .int (many : Nat), .int (marks : Nat)] ∧ Row H a ss ∧ Good ss ∧ ss.length ≤ 1000 ∧ many ≤ 1000 ∧ ∀ H', Same H H' → Q (.bl (OM.shareB ss many marks)) H'
section
variable {P : Program} {w : World} {K : PySem.W.Frag} {mg : Str → Option Value} {base : Heap}
theorem scLying : FnScope ["stays", "begin", "end", "life"] ["stays"] (defScope sLying) := ⟨rfl, rfl, rfl, by decide +kernel, rfl, by decide +kernel, by decide +kernel⟩
theorem ok_lying {f : Addr} {fd : FuncData} (F : Fun K "lying_spans" "lying_spans" sLying f fd) : FnOk P w K mg base CX0 1 f fd ["stays"] spLying := by
  refine F.ok scLying (fun vs H Q E h => ?_) (fun cdv A outer s H vs Q E hr h => ?_)
  · obtain ⟨a, ss, rfl, _⟩ := h
    rfl
  · obtain ⟨a, ss, rfl, hp, hl, q⟩ := h
    have nd := scLying.nd
    refine ⟨_, pss_one (ps_ret (pe_lc (own := [("begin", 1), ("end", 2), ("life", 3)]) (g := gTup K 3 (gCons (gName 1) (gCons (gName 2) (gCons (gName 3) gNil)))) (tt := tYes) rfl nd (pi_list (pv 0))
          (blkOk_by (N := ["stays", "begin", "end", "life"]) (sc := defScope sLying) (by decide +kernel)) (fun _ _ _ _ _ => pg_tup rfl (pgs_cons (pg_name (i := 1) nd rfl (Or.inl rfl)) (pgs_cons (pg_name (i := 2) nd rfl (Or.inl rfl)) (pgs_cons (pg_name (i := 3) nd rfl (Or.inl rfl)) pgs_nil)))) (fun _ _ _ _ _ => pts_nil)
          (fun _ _ _ _ _ => pe_tup (pa_cons (pv 1) (pa_cons (pv 2) pa_nil))))), ?_⟩
    obtain ⟨us, hu, pu⟩ := id hp
    have ll := pu.length
    refine ⟨_, rfl, a, rfl, ⟨_, SqL.of hu⟩, fun D nD => ?_⟩
    refine lc_it (walk_list (xs := us)) (GrowP Sp2 D H (OM.lying ss)) grow_start (fun i G _ z => Same.seq (grow_same z (Same.refl H) nD) (SqL.of hu)) (fun i x G G' hi z y => ?_) (fun G z => ?_)
    · obtain ⟨rfl, hx⟩ := y
      obtain ⟨s, hs, t, rfl, ht⟩ := Paired.at pu hx
      refine ⟨t, _, rfl, SqT.of (grow_same z (Same.refl H) nD _ _ ht), rfl, .int s.1, _, rfl, .int s.2.1, _, rfl, .int s.2.2, _, rfl, rfl, rfl, ?_⟩
      dsimp only [tYes]
      rw [if_pos rfl]
      refine ⟨_, rfl, _, rfl, by show 2 ≤ sizeLine; decide, fun T nT => ?_⟩
      exact grow_in (y := (s.1, s.2.1)) Sp2.st (fun G v b xs zs h r => r.putL h) z (by unfold OM.lying; rw [List.getElem?_map, hs] <;> rfl) (by omega) (Same.new nT) ⟨T, rfl, upd_same⟩
    · obtain ⟨vs, gD, pv⟩ := grow_end z (by unfold OM.lying; rw [List.length_map, ll])
      exact q G D (grow_same z (Same.refl H) nD) nD ⟨vs, gD, pv⟩
theorem scShare : FnScope ["stays", "many", "marks"] ["stays", "many", "marks"] (defScope sShare) := ⟨rfl, rfl, rfl, by decide +kernel, rfl, by decide +kernel, by decide +kernel⟩
theorem ok_share {f fL fB fO : Addr} {fd fdL fdB fdO : FuncData} (F : Fun K "can_share" "can_share" sShare f fd)
    (GL : FnOk P w K mg base CX0 1 fL fdL ["stays"] spLying) (gL : mg "lying_spans" = some (.ref fL)) (kL : PySem.W.keepIn K (.ref fL) = true) (bL : Binds K fdL ["stays"] [])
    (GB : FnOk P w K mg base CX0 1 fB fdB ["stays"] spBound) (gB : mg "bound_spans" = some (.ref fB)) (kB : PySem.W.keepIn K (.ref fB) = true) (bB : Binds K fdB ["stays"] [])
    (GO : FnOk P w K mg base CX0 2 fO fdO ["spans"] spMost) (gO : mg "most_at_once" = some (.ref fO)) (kO : PySem.W.keepIn K (.ref fO) = true) (bO : Binds K fdO ["spans"] []) : FnOk P w K mg base CX0 3 f fd ["stays", "many", "marks"] spShare := by
  refine F.ok scShare (fun vs H Q E h => ?_) (fun cdv A outer s H vs Q E hr h => ?_)
  · obtain ⟨a, ss, n, m, rfl, _⟩ := h
    rfl
  · obtain ⟨a, ss, n, m, rfl, row, g, hl, hn, q⟩ := h
    have nd := scShare.nd
    have hr1 := hr.mono (show 1 ≤ 2 by decide)
    refine ⟨_, pss_cons (ps_if (pt_cmpR op_gt (pe_call GO hr (by rfl) gO kO bO .nil pass0 (pa_cons (pe_call GL hr1 (by rfl) gL kL bL .nil pass0 (pa_cons (pv 0) pa_nil)) pa_nil)) (pv 1) (nomark _)) (pss_one (ps_ret pe_bl)) pss_nil)
      (pss_one (ps_ret (pe_cmpR op_le (pe_call GO hr (by rfl) gO kO bO .nil pass0 (pa_cons (pe_call GB hr1 (by rfl) gB kB bB .nil pass0 (pa_cons (pv 0) pa_nil)) pa_nil)) (pe_op op_mul (pv 1) (pv 2)) (nomark _)))), ?_⟩
    have gl := goodL g
    refine ⟨_, rfl, a, ss, rfl, row, hl, fun H1 D e1 nD pr => ⟨D, _, rfl, pr, by unfold OM.lying; rw [List.length_map]; exact hl, OM.lying_good gl, fun H2 e2 => ⟨_, rfl, _, _, rfl, rfl, _, rfl, ?_⟩⟩⟩
    have e12 := e1.trans e2
    unfold OM.shareB at q
    refine ite2 (fun h => ?_) (fun h => ?_)
    · have lt := of_decide_eq_true h
      have q := q H2 e12
      rw [decide_eq_false (show ¬ OM.most (OM.lying ss) ≤ (n : Int) by omega)] at q
      exact q
    · have lt : ¬ (n : Int) < OM.most (OM.lying ss) := fun y => h (decide_eq_true y)
      refine ⟨_, rfl, a, ss, rfl, row.same e12, hl, fun H3 D3 e3 n3 pr3 => ⟨D3, _, rfl, pr3, by unfold OM.spans; rw [List.length_map]; exact hl, OM.spans_ok (good_m g), fun H4 e4 => ⟨_, rfl, _, rfl, n, m, rfl, rfl, Or.inl ⟨by omega, by omega⟩, _, _, rfl, rfl, ?_⟩⟩⟩
      have q := q H4 ((e12.trans e3).trans e4)
      rw [decide_eq_true (show OM.most (OM.lying ss) ≤ (n : Int) by omega), Bool.true_and] at q
      exact q
end
end OB
namespace OB
open PySem PySem.Spec PyProof.Rows L2 LamX
abbrev sIsMG : Stmt := top 29
abbrev sGoes : Stmt := top 30
/-- whether each lot can share one address -/
def lotsB (ss : List S3) (ns : List Int) (marks : Int) : Bool := (ss.zip ns).all fun p => OM.shareB (OM.lotW ss ns p.2) 1 marks
theorem lots_iff {ss : List S3} {ns : List Int} {marks : Int} (m0 : 0 ≤ marks) : lotsB ss ns marks = true ↔ ∀ u, OM.shareB (OM.lotW ss ns u) 1 marks = true := by
  unfold lotsB
  rw [List.all_eq_true]
  constructor
  · intro h u
    by_cases hu : u ∈ (ss.zip ns).map Prod.snd
    · obtain ⟨p, mp, rfl⟩ := List.mem_map.mp hu
      exact h p mp
    · have : OM.lotW ss ns u = [] := by
        unfold OM.lotW sel
        rw [List.filter_eq_nil_iff.mpr fun p mp => by
          intro z
          exact hu (List.mem_map.mpr ⟨p, mp, of_decide_eq_true z⟩)]
        rfl
      rw [this]
      exact OM.share_nil m0
  · intro h p _
    exact h p.2
theorem lots_all {ss : List S3} {ns : List Int} {marks : Int} {st : List Lot} (hs : ∀ t ∈ st, t.2.2 = sel t.1 (ss.zip ns)) (hk : ∀ n, n ∈ (st.map fun t => t.1) ↔ n ∈ (ss.zip ns).map Prod.snd) :
    (st.all fun t => OM.shareB t.2.2 1 marks) = lotsB ss ns marks := by
  unfold lotsB
  rw [Bool.eq_iff_iff, List.all_eq_true, List.all_eq_true]
  constructor
  · intro h p mp
    obtain ⟨t, mt, e⟩ := List.mem_map.mp ((hk p.2).mpr (List.mem_map.mpr ⟨p, mp, rfl⟩))
    have h := h t mt
    rw [hs t mt] at h
    rw [← e]
    exact h
  · intro h t mt
    obtain ⟨p, mp, e⟩ := List.mem_map.mp ((hk t.1).mp (List.mem_map.mpr ⟨t, mt, rfl⟩))
    have h := h p mp
    rw [hs t mt]
    have e : p.2 = t.1 := e
    rw [e] at h
    exact h
def selV (u : Int) (pr : List (V × Int)) : List V := (pr.filter fun p => decide (p.2 = u)).map Prod.fst
theorem selV_snoc {u k : Int} {v : V} {pr : List (V × Int)} : selV u (pr ++ [(v, k)]) = selV u pr ++ (if k = u then [v] else []) := by
  unfold selV
  rw [List.filter_append, List.map_append]
  congr 1
  by_cases y : k = u
  · rw [if_pos y]
    simp [y]
  · rw [if_neg y]
    simp [y]
theorem selV_len {u : Int} {pr : List (V × Int)} : (selV u pr).length ≤ pr.length := by
  unfold selV
  rw [List.length_map]
  exact List.length_filter_le _ _
theorem selV_pair {R : V → S3 → Prop} {u : Int} : ∀ {us : List V} {ss : List S3} {ns : List Int}, Paired R us ss → Paired R (selV u (us.zip ns)) (sel u (ss.zip ns))
  | _, _, _, .nil => by
    rw [List.zip_nil_left, List.zip_nil_left]
    exact .nil
  | _, _, [], .cons _ _ => by
    rw [List.zip_nil_right, List.zip_nil_right]
    exact .nil
  | x :: us, s :: ss, n :: ns, .cons r t => by
    have ih := selV_pair (ns := ns) (u := u) t
    rw [List.zip_cons_cons, List.zip_cons_cons]
    unfold selV sel at *
    by_cases y : n = u
    · rw [List.filter_cons_of_pos (by simp [y]), List.filter_cons_of_pos (by simp [y])]
      exact .cons r ih
    · rw [List.filter_cons_of_neg (by simp [y]), List.filter_cons_of_neg (by simp [y])]
      exact ih
/-- whether what is told is a marked giving -/
def isMG (ss : List S3) (n m : Int) (rt : Option (List V)) : Bool := match numsOf ss.length n rt with
  | none => false
  | some ns => lotsB ss ns m
def spMG (K : PySem.W.Frag) (CS CM : Addr) : Sp := fun vs H Q E => ∃ (v m1 m2 th : V) (k1 k2 : Kd) (r : Nat ⊕ List S3), vs = [v, m1, m2, th] ∧ ArgS K H v r ∧ Any K H m1 k1 ∧ Any K H m2 k2 ∧ (∀ i, r = .inl i → Bad E H CS "index" (.int (i : Nat))) ∧ ∀ ss, r = .inr ss → (oneV m1 = false → Bad E H CM "many" m1) ∧ (oneV m1 = true → oneV m2 = false → Bad E H CM "many" m2) ∧
  (∀ n m : Nat, m1 = .int (n : Nat) → m2 = .int (m : Nat) → 0 < n → 0 < m → ∃ rt, Tells K H th rt ∧ ∀ H', Same H H' → Q (.bl (isMG ss n m rt)) H')
def spGoes : Sp := fun vs H Q _ => ∃ (a b : Addr) (ss : List S3) (ns : List Int) (u : Int) (marks : Nat), vs = [.ref a, .ref b, .int u, .int (marks : Nat)] ∧ Row H a ss ∧ Good ss ∧ H b = some (.lst (ns.map V.int)) ∧ ns.length < ss.length ∧ ss.length < 1000 ∧ ∀ H', Same H H' → Q (.bl (OM.stepB ss marks ns u)) H'
section
variable {P : Program} {w : World} {K : PySem.W.Frag} {mg : Str → Option Value} {base : Heap}
theorem scIsMG : FnScope ["stays", "many", "marks", "thing", "told", "numbers", "lot"] ["stays", "many", "marks", "thing"] (defScope sIsMG) := ⟨rfl, rfl, rfl, by decide +kernel, rfl, by decide +kernel, by decide +kernel⟩
theorem ok_isMG {f fN fL fS fM fT CS CM : Addr} {fd fdN fdL fdS fdM fdT : FuncData} (F : Fun K "is_marked_giving" "is_marked_giving" sIsMG f fd) (T : TxtC mg)
    (GN : FnOk P w K mg base CX0 3 fN fdN ["stays", "many", "thing"] (spNums K)) (gN : mg "numbers_told" = some (.ref fN)) (kN : PySem.W.keepIn K (.ref fN) = true) (bN : Binds K fdN ["stays", "many", "thing"] [])
    (GL : FnOk P w K mg base CX0 1 fL fdL ["stays", "numbers"] spLots) (gL : mg "lots_by_number" = some (.ref fL)) (kL : PySem.W.keepIn K (.ref fL) = true) (bL : Binds K fdL ["stays", "numbers"] [])
    (GS : FnOk P w K mg base CX0 3 fS fdS ["stays", "many", "marks"] spShare) (gS : mg "can_share" = some (.ref fS)) (kS : PySem.W.keepIn K (.ref fS) = true) (bS : Binds K fdS ["stays", "many", "marks"] [])
    (GM : FnOk P w K mg base (L2.CX P w) 3 fM fdM ["many"] (spOne K CM)) (gM : mg "check_from_one" = some (.ref fM)) (kM : PySem.W.keepIn K (.ref fM) = true) (bM : Binds K fdM ["many"] [])
    (GT : FnOk P w K mg base (L2.CX P w) 5 fT fdT ["stays"] (spTold K CS)) (gT : mg "told_stays" = some (.ref fT)) (kT : PySem.W.keepIn K (.ref fT) = true) (bT : Binds K fdT ["stays"] []) : FnOk P w K mg base (L2.CX P w) 6 f fd ["stays", "many", "marks", "thing"] (spMG K CS CM) := by
  refine F.okX scIsMG (fun vs H Q E h => ?_) (fun cdv A outer s H vs Q E hr h => ?_)
  · obtain ⟨v, m1, m2, th, k1, k2, r, rfl, _⟩ := h
    rfl
  · obtain ⟨v, m1, m2, th, k1, k2, r, rfl, ha, hm1, hm2, hb, q⟩ := h
    have nd := scIsMG.nd
    have hr3 := hr.mono (show 3 ≤ 5 by decide)
    have hr2 := hr.mono (show 2 ≤ 5 by decide)
    have hr1 := hr.mono (show 1 ≤ 5 by decide)
    refine ⟨_, pss_cons (ps_set (i := 4) nd rfl (Or.inl rfl) (pe_callS GT hr (by rfl) gT kT bT (fun σ => passAt (takes_of rfl rfl rfl rfl) σ) (pa_cons (pv 0) pa_nil)))
      (pss_cons (ps_expr (pe_callS GM hr3 (by rfl) gM kM bM (fun σ => passAt (takes_of rfl rfl rfl rfl) σ) (pa_cons (pv 1) pa_nil)))
      (pss_cons (ps_expr (pe_callS GM hr3 (by rfl) gM kM bM (fun σ => passAt (takes_of rfl rfl rfl rfl) σ) (pa_cons (pv 2) pa_nil)))
      (pss_cons (ps_set (i := 5) nd rfl (Or.inl rfl) (pe_call GN hr3 (by rfl) gN kN bN .nil pass0 (pa_cons (pv 4) (pa_cons (pv 1) (pa_cons (pv 3) pa_nil)))))
      (pss_cons (ps_if (pt_cmpR op_isN (pv 5) pe_non (nomark _)) (pss_one (ps_ret pe_bl)) pss_nil)
      (pss_one (ps_ret (pe_callB (cr_all rfl) (by rfl) T.all (by decide +kernel) (pa_cons (pe_lc (own := [("lot", 6)]) (g := gName 6) (tt := tYes) rfl nd (pi_list (pe_call GL hr1 (by rfl) gL kL bL .nil pass0 (pa_cons (pv 4) (pa_cons (pv 5) pa_nil)))) (blkOk_by (N := ["stays", "many", "marks", "thing", "told", "numbers", "lot"]) (sc := defScope sIsMG) (by decide +kernel))
          (fun _ _ _ _ _ => pg_name (i := 6) nd rfl (Or.inl rfl)) (fun _ _ _ _ _ => pts_nil) (fun _ _ _ _ _ => pe_call GS hr3 (by rfl) gS kS bS .nil pass0 (pa_cons (pv 6) (pa_cons pe_int (pa_cons (pv 2) pa_nil))))) pa_nil)))))))), ?_⟩
    refine ⟨_, rfl, ?_⟩
    dsimp only [tNil]
    refine told_arg (E := E) ha hb fun ss er H1 D e1 nD row => ?_
    subst er
    obtain ⟨q1, q2, q3⟩ := q ss rfl
    obtain ⟨g, l⟩ := ha.good
    refine ⟨_, rfl, m1, k1, rfl, hm1.same e1, fun z => (q1 z).same e1, fun z1 H2 e2 => ?_⟩
    have e12 := e1.trans e2
    refine ⟨_, rfl, m2, k2, rfl, hm2.same e12, fun z => (q2 z1 z).same e12, fun z2 H3 e3 => ?_⟩
    obtain ⟨n, rfl, n0⟩ := one_nat z1
    obtain ⟨m, rfl, m0⟩ := one_nat z2
    obtain ⟨rt, ht, q4⟩ := q3 n m rfl rfl n0 m0
    have e13 := e12.trans e3
    obtain ⟨us, hu, pu⟩ := row.same (e2.trans e3)
    have lu := pu.length
    refine ⟨_, rfl, _, rfl, _, rfl, D, us, (n : Int), th, rt, rfl, hu, ht.same e13, fun hn H4 e4 => ?_, fun ns hn H4 B e4 nB gB => ?_⟩
    · refine ⟨_, rfl, rfl, _, rfl, iteT ?_⟩
      have q4 := q4 _ (e13.trans e4)
      unfold isMG at q4
      rw [← lu, hn] at q4
      exact q4
    · refine ⟨_, rfl, rfl, _, rfl, iteF ?_⟩
      have ln := (nums_some hn).1
      have q4 := fun H' (e : Same H4 H') => q4 H' ((e13.trans e4).trans e)
      unfold isMG at q4
      rw [← lu, hn] at q4
      refine ⟨_, rfl, _, rfl, D, B, ss, ns, rfl, ⟨us, e4 _ _ hu, Paired.imp (fun _ _ z => St.same z e4) pu⟩, gB, by omega, by omega, fun H5 R st e5 nR gR hst hk ls => ?_⟩
      refine ⟨R, rfl, ⟨_, SqL.of gR⟩, fun A nA => ?_⟩
      have lm : ((st.map fun t => OM.shareB t.2.2 1 m).map V.bl).length = st.length := by simp
      have lm2 : (st.map fun t => V.ref t.2.1).length = st.length := by rw [List.length_map]
      refine lc_it (walk_list (xs := st.map fun t => V.ref t.2.1)) (AccP A H5 (mapTo ((st.map fun t => OM.shareB t.2.2 1 m).map V.bl))) (acc_start rfl) (fun i G _ z => Same.seq (acc_same z (Same.refl H5) nA) (SqL.of gR)) (fun i x G G' hi z y => ?_) (fun G z => ?_)
      · obtain ⟨rfl, hx⟩ := y
        rw [lm2] at hi
        have hti : st[i]? = some st[i] := List.getElem?_eq_getElem hi
        rw [List.getElem?_map, hti] at hx
        obtain rfl := Option.some.inj hx
        have mt : st[i] ∈ st := List.getElem_mem hi
        generalize st[i] = t at hti mt
        obtain ⟨rw1, sl1⟩ := hst t mt
        have gt : Good t.2.2 := fun s ms => by
          rw [sl1] at ms
          obtain ⟨p, mp, rfl⟩ := List.mem_map.mp ms
          exact g p.1 (List.of_mem_zip (List.mem_filter.mp mp).1).1
        have lt : t.2.2.length ≤ 1000 := by
          rw [sl1]
          unfold sel
          rw [List.length_map]
          refine Nat.le_trans (List.length_filter_le _ _) ?_
          rw [List.length_zip]
          omega
        have es := acc_same z (Same.refl H5) nA
        refine ⟨rfl, ?_⟩
        dsimp only [tYes]
        rw [if_pos rfl]
        refine ⟨_, rfl, _, rfl, t.2.1, t.2.2, 1, m, rfl, rw1.same es, gt, lt, by omega, fun G2 e2' => ?_⟩
        exact acc_in z e2' (mapTo_len (by rw [lm, sizeLine_eq]; omega)) (mapTo_succ (by
          rw [List.getElem?_map, List.getElem?_map, hti] <;> rfl))
      · rw [lm2, ← lm] at z
        have gA : G A = some (.lst ((st.map fun t => OM.shareB t.2.2 1 m).map V.bl)) := by rw [z.2, mapTo_all]
        have e6 : Same H4 G := e5.trans (acc_same z (Same.refl H5) nA)
        refine ⟨A, _, rfl, SqL.of gA, ?_⟩
        have al : (st.map fun t => OM.shareB t.2.2 1 m).all id = lotsB ss ns m := by
          rw [List.all_map, ← lots_all (fun t m => (hst t m).2) hk] <;> rfl
        rw [al]
        exact q4 G e6
theorem scGoes : FnScope ["stays", "numbers", "number", "marks", "lot", "stay", "given"] ["stays", "numbers", "number", "marks"] (defScope sGoes) := ⟨rfl, rfl, rfl, by decide +kernel, rfl, by decide +kernel, by decide +kernel⟩
theorem ok_goes {f fS : Addr} {fd fdS : FuncData} (F : Fun K "goes_on" "goes_on" sGoes f fd) (T : TxtC mg) (zi : mg "zip" = none)
    (GS : FnOk P w K mg base CX0 3 fS fdS ["stays", "many", "marks"] spShare) (gS : mg "can_share" = some (.ref fS)) (kS : PySem.W.keepIn K (.ref fS) = true) (bS : Binds K fdS ["stays", "many", "marks"] []) : FnOk P w K mg base CX0 4 f fd ["stays", "numbers", "number", "marks"] spGoes := by
  refine F.ok scGoes (fun vs H Q E h => ?_) (fun cdv A outer s H vs Q E hr h => ?_)
  · obtain ⟨a, b, ss, ns, u, marks, rfl, _⟩ := h
    rfl
  · obtain ⟨a, b, ss, ns, u, marks, rfl, row, g, hb, ln, hl, q⟩ := h
    have nd := scGoes.nd
    refine ⟨_, pss_cons (ps_setLc (i := 4) (own := [("stay", 5), ("given", 6)]) (g := gTup K 2 (gCons (gName 5) (gCons (gName 6) gNil))) (tt := fun σ H Q => tTest (tOp rEq (tVar 6) (tVar 2)) σ H Q) rfl nd rfl rfl (sw_true rfl rfl rfl (by decide +kernel)) (pi_zip (by rfl) zi (pa_cons (pv 0) (pa_cons (pv 1) pa_nil)))
          (blkOk_by (N := ["stays", "numbers", "number", "marks", "lot", "stay", "given"]) (sc := defScope sGoes) (by decide +kernel)) (fun _ _ _ _ _ => pg_tup rfl (pgs_cons (pg_name (i := 5) nd rfl (Or.inl rfl)) (pgs_cons (pg_name (i := 6) nd rfl (Or.inl rfl)) pgs_nil))) (fun _ _ _ _ _ => pts_one (pt_cmpR op_eq (pv 6) (pv 2) (nomark _))) (fun _ _ _ _ _ => pv 5))
      (pss_one (ps_ret (pe_call GS hr (by rfl) gS kS bS .nil pass0 (pa_cons (pe_lst (StX.pa_star (pv 4) (pa_cons (pe_ix ix_list (pv 0) (pe_callB call_len_seq (by rfl) T.len PySem.boot_len (pa_cons (pv 1) pa_nil)) (fun _ _ => rfl)) pa_nil))) (pa_cons pe_int (pa_cons (pv 3) pa_nil)))))), ?_⟩
    obtain ⟨us, hu, pu⟩ := id row
    have lu := pu.length
    refine ⟨_, rfl, _, rfl, a, b, us, ns.map V.int, rfl, SqL.of hu, SqL.of hb, fun D nD => ?_⟩
    have lz : (us.zip ns).length = ns.length := by rw [List.length_zip]; omega
    refine lc_it (walk_zip (xs := us) (ys := ns.map V.int) (n := ns.length) (by rw [List.length_map]; omega)) (AccP D H (fun i => selV u ((us.zip ns).take i))) (acc_start rfl) (fun i G _ z => ⟨Same.seq (acc_same z (Same.refl H) nD) (SqL.of hu), Same.seq (acc_same z (Same.refl H) nD) (SqL.of hb)⟩) (fun i x G G' hi z y => ?_) (fun G z => ?_)
    · obtain ⟨T', x1, x2, rfl, hT, rfl, hx1, hx2⟩ := y
      have hk : ns[i]? = some ns[i] := List.getElem?_eq_getElem hi
      have hx2 : (ns.map V.int)[i]? = some x2 := hx2
      rw [List.getElem?_map, hk] at hx2
      obtain rfl := Option.some.inj hx2
      generalize ns[i] = k at hk
      have hz : (us.zip ns)[i]? = some (x1, k) := by
        rw [List.getElem?_zip_eq_some]
        exact ⟨hx1, hk⟩
      refine ⟨T', _, rfl, SqT.of upd_same, rfl, x1, _, rfl, .int k, _, rfl, rfl, rfl, ?_⟩
      refine ⟨_, rfl, _, rfl, rfl, _, rfl, ?_⟩
      have step : selV u ((us.zip ns).take (i + 1)) = selV u ((us.zip ns).take i) ++ (if k = u then [x1] else []) := by rw [List.take_add_one, hz]; exact selV_snoc
      have ol : (selV u ((us.zip ns).take i)).length < sizeLine := by
        have := selV_len (u := u) (pr := (us.zip ns).take i)
        rw [List.length_take] at this
        rw [sizeLine_eq]
        omega
      refine ite2 (fun h => ?_) (fun h => ?_)
      · have e : k = u := V.int.inj (of_decide_eq_true h)
        rw [if_pos e] at step
        exact ⟨_, rfl, acc_in z (Same.new hT) ol step⟩
      · have e : ¬ k = u := fun y => h (decide_eq_true (by rw [y]))
        rw [if_neg e, List.append_nil] at step
        exact acc_out z (Same.new hT) step
    · rw [← lz] at z
      have gD : G D = some (.lst (selV u (us.zip ns))) := by
        have this : G D = some (.lst (selV u ((us.zip ns).take (us.zip ns).length))) := z.2
        rw [List.take_length] at this
        exact this
      have eG : Same H G := acc_same z (Same.refl H) nD
      have hv : us[ns.length]? = some us[ns.length] := List.getElem?_eq_getElem (by omega)
      obtain ⟨s, hs, st⟩ := Paired.at pu hv
      generalize us[ns.length] = xv at hv st
      have es := OM.sAt_of hs
      have lsel : (selV u (us.zip ns)).length ≤ 1000 := by
        have := selV_len (u := u) (pr := us.zip ns)
        omega
      refine ⟨_, rfl, D, _, rfl, .inr (SqL.of gD), _, rfl, _, rfl, b, _, rfl, .inl (SqL.of (eG _ _ hb)), a, us, (ns.length : Nat), xv, rfl, by rw [List.length_map], SqL.of (eG _ _ hu), atI_nat hv, ?_⟩
      refine ⟨by rw [sizeLine_eq, List.length_append]; simp; omega, fun L nL => ?_⟩
      have eL : Same H (upd G L (.lst (selV u (us.zip ns) ++ [xv]))) := eG.trans (Same.new nL)
      refine ⟨_, rfl, L, sel u (ss.zip ns) ++ [s], 1, marks, rfl, ⟨_, upd_same, Paired.snoc (selV_pair (Paired.imp (fun v s h => h.same eL) pu)) (st.same eL)⟩, ?_, ?_, by omega, fun H2 e2 => ?_⟩
      · intro t mt
        rcases List.mem_append.mp mt with m1 | m1
        · obtain ⟨p, mp, rfl⟩ := List.mem_map.mp m1
          exact g p.1 (List.of_mem_zip (List.mem_filter.mp mp).1).1
        · obtain rfl := List.mem_singleton.mp m1
          exact g t (List.mem_of_getElem? hs)
      · have h1 := (selV_pair (ns := ns) (u := u) pu).length
        have h2 := selV_len (u := u) (pr := us.zip ns)
        rw [lz] at h2
        rw [List.length_append, List.length_singleton]
        omega
      · have q := q H2 (eL.trans e2)
        unfold OM.stepB at q
        rw [es] at q
        exact q
end
end OB
namespace OM
/-! ### how much is left -/
def wSt (many : Nat) : Nat → Nat
  | 0 => 1
  | f + 1 => (many + 1) * wSt many f + 2
def muB (many n : Nat) : List Int → Nat
  | [] => 0
  | x :: r => (many - x.toNat) * wSt many (n - r.length) + muB many n r + 1
def mu (many n : Nat) (g : List Int) (k : Nat) : Nat := (many + 1 - k) * wSt many (n - g.length) + muB many n g.reverse
theorem wSt_pos (many f : Nat) : 0 < wSt many f := by
  cases f with
  | zero => exact Nat.zero_lt_one
  | succ f =>
    show 0 < (many + 1) * wSt many f + 2
    omega
theorem mu_snoc {many n : Nat} {g : List Int} {x : Int} {k : Nat} : mu many n (g ++ [x]) k = (many + 1 - k) * wSt many (n - (g.length + 1)) + ((many - x.toNat) * wSt many (n - g.length) + muB many n g.reverse + 1) := by
  unfold mu
  rw [List.reverse_append, List.length_append]
  show _ + ((many - x.toNat) * wSt many (n - g.reverse.length) + muB many n g.reverse + 1) = _
  rw [List.length_reverse]
  rfl
theorem mu_push {many n : Nat} {g : List Int} {k : Nat} (l : g.length < n) (h : k ≤ many) : mu many n (g ++ [(k : Int)]) 0 < mu many n g k := by
  rw [mu_snoc]
  unfold mu
  obtain ⟨f, hf⟩ : ∃ f, n - g.length = f + 1 := ⟨n - g.length - 1, by omega⟩
  have hf2 : n - (g.length + 1) = f := by omega
  rw [hf, hf2, Int.toNat_natCast, Nat.sub_zero]
  have e : many + 1 - k = (many - k) + 1 := by omega
  have e2 : (many + 1 - k) * wSt many (f + 1) = (many - k) * wSt many (f + 1) + wSt many (f + 1) := by rw [e, Nat.succ_mul]
  rw [e2]
  have : wSt many (f + 1) = (many + 1) * wSt many f + 2 := rfl
  omega
theorem mu_pop {many n : Nat} {g : List Int} {x : Int} {k : Nat} (h : 0 ≤ x) : mu many n g (x.toNat + 1) < mu many n (g ++ [x]) k := by
  rw [mu_snoc]
  unfold mu
  have e : many + 1 - (x.toNat + 1) = many - x.toNat := by omega
  rw [e]
  omega
theorem mu_le {many n : Nat} {g : List Int} {k k' : Nat} (h : k ≤ k') : mu many n g k' ≤ mu many n g k := by
  unfold mu
  have : (many + 1 - k') * wSt many (n - g.length) ≤ (many + 1 - k) * wSt many (n - g.length) := Nat.mul_le_mul_right _ (by omega)
  omega
theorem mxI_is {g : List Int} {m : Int} (h : m ∈ -1 :: g) (ge : ∀ y ∈ -1 :: g, y ≤ m) : m = mxI g := by
  have a : m ≤ mxI g := by
    rcases List.mem_cons.mp h with e | e
    · rw [e]; exact mxI_low g
    · exact mxI_ge e
  have b : mxI g ≤ m := by
    clear h a
    induction g with
    | nil => exact ge _ (List.mem_cons_self ..)
    | cons x g ih =>
      have := ih fun y my => ge y (by
        rcases List.mem_cons.mp my with e | e
        · rw [e]; exact List.mem_cons_self ..
        · exact List.mem_cons_of_mem _ (List.mem_cons_of_mem _ e))
      have h2 := ge x (List.mem_cons_of_mem _ (List.mem_cons_self ..))
      show max x (mxI g) ≤ m
      omega
  omega
end OM
namespace OB
open PySem PySem.Spec PyProof.Rows L2 LamX
abbrev sFirstM : Stmt := top 31
theorem while_go {c : TT} {tb : TS} {D : Ends} {σ : L2.St} {H : Hp} (Pv : Nat → L2.St → Hp → Prop) (h0 : ∃ m, Pv m σ H)
    (hs : ∀ m σ H, Pv m σ H → c σ H fun b H1 => if b = true then tb { D with nx := fun σ' H' => ∃ m', m' < m ∧ Pv m' σ' H', ct := fun σ' H' => ∃ m', m' < m ∧ Pv m' σ' H', bk := D.nx } σ H1 else D.nx σ H1)
    (mono : ∀ σ H (Q Q' : Bool → Hp → Prop), (∀ b H1, Q b H1 → Q' b H1) → c σ H Q → c σ H Q') : tWhile c tb D σ H := by
  refine ⟨Pv, h0, fun m σ H w => mono σ H _ _ (fun b H1 q => ?_) (hs m σ H w)⟩
  cases b with
  | true => exact ⟨_, fun σ' H' z => z, q⟩
  | false => exact q
theorem nil_or_snoc (l : List Int) : l = [] ∨ ∃ g x, l = g ++ [x] := by
  induction l using List.reverseRecOn' with
  | nil => exact .inl rfl
  | snoc b x _ => exact .inr ⟨b, x, rfl⟩
/-- what is told of a search: none, or a new list -/
def NewL (H : Hp) (res : Option (List Int)) (Q : VK) : Prop := (res = none → ∀ H', Same H H' → Q .non H') ∧ ∀ ns, res = some ns → ∀ H' D, Same H H' → H D = none → H' D = some (.lst (ns.map V.int)) → Q (.ref D) H'
def spFirstM : Sp := fun vs H Q _ => ∃ (a : Addr) (ss : List S3) (many marks : Nat), vs = [.ref a, .int (many : Nat), .int (marks : Nat)] ∧ Row H a ss ∧ Good ss ∧ ss.length < 1000 ∧ many ≤ 1000 ∧ NewL H (OM.firstL ss marks many ss.length []) Q
section
variable {P : Program} {w : World} {K : PySem.W.Frag} {mg : Str → Option Value} {base : Heap}
theorem scFirstM : FnScope ["stays", "many", "marks", "numbers", "number", "behind"] ["stays", "many", "marks"] (defScope sFirstM) := ⟨rfl, rfl, rfl, by decide +kernel, rfl, by decide +kernel, by decide +kernel⟩
theorem ok_firstM {f fS fG : Addr} {fd fdS fdG : FuncData} (F : Fun K "first_marked_giving" "first_marked_giving" sFirstM f fd) (T : TxtC mg) (mx : mg "max" = none) (mi : mg "min" = none)
    (GS : FnOk P w K mg base CX0 3 fS fdS ["stays", "many", "marks"] spShare) (gS : mg "can_share" = some (.ref fS)) (kS : PySem.W.keepIn K (.ref fS) = true) (bS : Binds K fdS ["stays", "many", "marks"] [])
    (GG : FnOk P w K mg base CX0 4 fG fdG ["stays", "numbers", "number", "marks"] spGoes) (gG : mg "goes_on" = some (.ref fG)) (kG : PySem.W.keepIn K (.ref fG) = true) (bG : Binds K fdG ["stays", "numbers", "number", "marks"] []) : FnOk P w K mg base CX0 5 f fd ["stays", "many", "marks"] spFirstM := by
  refine F.ok scFirstM (fun vs H Q E h => ?_) (fun cdv A outer s H vs Q E hr h => ?_)
  · obtain ⟨a, ss, n, m, rfl, _⟩ := h
    rfl
  · obtain ⟨a, ss, many, marks, rfl, row, g, hl, hn, q1, q2⟩ := h
    have nd := scFirstM.nd
    have hr3 := hr.mono (show 3 ≤ 4 by decide)
    refine ⟨_, pss_cons (ps_if (pt_not (pt_val (pe_call GS hr3 (by rfl) gS kS bS .nil pass0 (pa_cons (pv 0) (pa_cons (pv 1) (pa_cons (pv 2) pa_nil)))))) (pss_one (ps_ret pe_non)) pss_nil)
      (pss_cons (ps_set (i := 3) nd rfl (Or.inl rfl) (pe_lst pa_nil))
      (pss_cons (ps_set (i := 4) nd rfl (Or.inl rfl) pe_int)
      (pss_cons (ps_while PassesOwn.never (pt_cmpR op_lt (pe_callB call_len_seq (by rfl) T.len PySem.boot_len (pa_cons (pv 3) pa_nil)) (pe_callB call_len_seq (by rfl) T.len PySem.boot_len (pa_cons (pv 0) pa_nil)) (nomark _))
        (pss_cons (ps_set (i := 5) nd rfl (Or.inl rfl) (pe_callB (call_min2 rfl) (by rfl) mi (by decide +kernel) (pa_cons (pv 1) (pa_cons (pe_op op_add (pe_callB (cr_max rfl) (by rfl) mx (by decide +kernel) (pa_cons (pe_lst (pa_cons (pe_un un_neg pe_int) (StX.pa_star (pv 3) pa_nil))) pa_nil)) pe_int) pa_nil))))
        (pss_cons (ps_while PassesOwn.never (PW.pt (pw_and (pt_cmpR op_lt (pv 4) (pv 5) (nomark _)) (pw_and1 (pt_not (pt_val (pe_call GG hr (by rfl) gG kG bG .nil pass0 (pa_cons (pv 0) (pa_cons (pv 3) (pa_cons (pv 4) (pa_cons (pv 2) pa_nil))))))))))
            (pss_one (ps_aug (i := 4) nd rfl (Or.inl rfl) pe_int ip_add)))
        (pss_one (ps_if (pt_cmpR op_lt (pv 4) (pv 5) (nomark _))
            (pss_cons (ps_expr (pe_bm PySem.F.plainAttrs_list PySem.F.slot_list_append PySem.F.type_list_append mt_append (pv 3) (pa_cons (pv 4) pa_nil)))
              (pss_one (ps_set (i := 4) nd rfl (Or.inl rfl) pe_int)))
            (pss_one (ps_if (pt_truth (pv 3) (by intro _; rfl))
              (pss_one (ps_set (i := 4) nd rfl (Or.inl rfl) (pe_op op_add (pe_bm0 PySem.F.plainAttrs_list PySem.F.slot_list_pop PySem.F.type_list_pop mt_pop (pv 3)) pe_int)))
              (pss_one (ps_ret pe_non)))))))))
      (pss_one (ps_ret (pv 3)))))), ?_⟩
    obtain ⟨us, hu, pu⟩ := id row
    have lu := pu.length
    have gl := goodL g
    refine ⟨_, rfl, _, rfl, _, rfl, a, ss, many, marks, rfl, row, g, by omega, hn, fun H1 e1 => ⟨_, rfl, ?_⟩⟩
    cases hs : OM.shareB ss many marks with
    | false => exact iteT (q1 (OM.first_all gl (by omega) (by rw [hs]; exact Bool.false_ne_true)) _ e1)
    | true =>
    refine iteF ?_
    refine ⟨Nat.zero_le _, fun D nD => ?_⟩
    have e2 : Same H (upd H1 D (.lst [])) := e1.trans (Same.new nD)
    have gD : (upd H1 D (.lst [])) D = some (.lst (([] : List Int).map V.int)) := upd_same
    have nD0 : H D = none := e1.free nD
    show tSeq _ _ _ _ (upd H1 D (.lst []))
    generalize upd H1 D (.lst []) = H2 at e2 gD ⊢
    clear e1 nD
    have hR : ∃ R, R = OM.firstP ss marks many ss.length [] := ⟨_, rfl⟩
    obtain ⟨R, eR⟩ := hR
    rw [← OM.firstP_eq, ← eR] at q1 q2
    refine while_go (fun mm σ G => ∃ (gs : List Int) (k : Nat) (o : Option V), σ = [some (.ref a), some (.int (many : Nat)), some (.int (marks : Nat)), some (.ref D), some (.int (k : Nat)), o] ∧ Same H G ∧ G D = some (.lst (gs.map V.int)) ∧ gs.length ≤ ss.length ∧ (∀ x ∈ gs, 0 ≤ x ∧ x < (many : Int)) ∧ k ≤ many ∧ (gs.length < ss.length → OM.resW ss marks many ss.length gs k = R) ∧ (gs.length = ss.length → R = some gs) ∧ mm = OM.mu many ss.length gs k)
      ⟨_, [], 0, _, rfl, e2, gD, Nat.zero_le _, (fun x m => (List.not_mem_nil m).elim), Nat.zero_le _, (fun h => by rw [eR]; exact (OM.res_start h).symm), (fun h => by
        rw [eR, ← h] <;> rfl), rfl⟩ (fun mm σ G z => ?_) (fun σ G Q Q' hq h => ?_)
    · obtain ⟨gs, k, o, rfl, eG, gG, lg, hx, kb, hr1, hr2, rfl⟩ := z
      refine ⟨_, rfl, D, _, rfl, .inl (SqL.of gG), _, rfl, a, us, rfl, .inl (SqL.of (eG _ _ hu)), _, _, rfl, rfl, _, rfl, ?_⟩
      refine ite2 (fun h => ?_) (fun h => ?_)
      · have h := of_decide_eq_true h
        rw [List.length_map, lu] at h
        have h : gs.length < ss.length := by omega
        have hr1 := hr1 h
        clear hr2
        refine ⟨_, rfl, 1, rfl, _, rfl, D, _, rfl, .inr (SqL.of gG), ?_, fun L nL => ⟨L, -1 :: gs, rfl, SqL.of ?_, by simp, fun mv hm hle => ?_⟩⟩
        · rw [sizeLine_eq]
          simp only [List.length_cons, List.length_append, List.length_nil, List.length_map]
          omega
        · rw [upd_same, List.append_nil] <;> rfl
        obtain rfl := OM.mxI_is hm hle
        refine ⟨_, _, rfl, rfl, _, _, rfl, ?_⟩
        have hb : (if OM.mxI gs + 2 < ((many : Nat) : Int) then OM.mxI gs + 2 else ((many : Nat) : Int)) = ((OM.behW many gs : Nat) : Int) := by
          have := OM.mxI_low gs
          unfold OM.behW
          split <;> omega
        rw [hb]
        have eL := Same.new (H := G) (u := .lst (.int (-1) :: (gs.map V.int ++ []))) nL
        have eG := eG.trans eL
        have gG := eL _ _ gG
        clear eL
        refine while_go (fun mm σ G' => ∃ k' : Nat, σ = [some (.ref a), some (.int (many : Nat)), some (.int (marks : Nat)), some (.ref D), some (.int (k' : Nat)), some (.int ((OM.behW many gs : Nat) : Int))] ∧ Same H G' ∧ G' D = some (.lst (gs.map V.int)) ∧ k ≤ k' ∧ k' ≤ many ∧ OM.resW ss marks many ss.length gs k' = R ∧ mm = many - k')
          ⟨_, k, rfl, eG, gG, Nat.le_refl _, kb, hr1, rfl⟩ (fun mm σ G' z => ?_) (fun σ G' Q Q' hq h => ?_)
        · obtain ⟨k', rfl, eG', gG', kk, kb', hr', rfl⟩ := z
          have bm : OM.behW many gs ≤ many := Nat.min_le_left _ _
          have ml : OM.mu many ss.length gs k' ≤ OM.mu many ss.length gs k := OM.mu_le kk
          refine ⟨_, rfl, _, rfl, _, _, rfl, rfl, _, rfl, ?_⟩
          refine ite2 (fun h1 => ?_) (fun h1 => ?_)
          · have h1 := of_decide_eq_true h1
            have h1 : k' < OM.behW many gs := by omega
            refine ⟨_, rfl, _, rfl, _, rfl, _, rfl, a, D, ss, gs, (k' : Nat), marks, rfl, row.same eG', g, gG', h, hl, fun H3 e3 => ⟨_, rfl, ?_⟩⟩
            have eG3 := eG'.trans e3
            have gG3 := e3 _ _ gG'
            cases hst : OM.stepB ss marks gs (k' : Nat) with
            | false =>
              refine iteT ?_
              refine ⟨_, rfl, _, _, rfl, rfl, many - (k' + 1), by omega, k' + 1, rfl, eG3, gG3, by omega, by omega, ?_, rfl⟩
              rw [← hr']
              exact (OM.res_no h1 (by rw [hst]; exact Bool.false_ne_true)).symm
            | true =>
              refine iteF ?_
              refine ⟨_, rfl, _, rfl, _, _, rfl, rfl, _, rfl, ?_⟩
              refine ite2 (fun h2 => ?_) (fun h2 => absurd (decide_eq_true (by omega)) h2)
              refine ⟨_, rfl, .inl ⟨rfl, _, SqL.of gG3⟩, _, rfl, D, _, _, rfl, rfl, gG3, by rw [sizeLine_eq, List.length_map]; omega, ?_⟩
              have gP : (upd H3 D (.lst (gs.map V.int ++ [V.int ((k' : Nat) : Int)]))) D = some (.lst ((gs ++ [((k' : Nat) : Int)]).map V.int)) := by rw [upd_same, List.map_append] <;> rfl
              have eP : Same H (upd H3 D (.lst (gs.map V.int ++ [V.int ((k' : Nat) : Int)]))) := fun b o eb => by
                rw [upd_ne (ne_of_none eb nD0)]
                exact eG3 _ _ eb
              refine ⟨OM.mu many ss.length (gs ++ [((k' : Nat) : Int)]) 0, Nat.lt_of_lt_of_le (OM.mu_push h (by omega)) ml, gs ++ [((k' : Nat) : Int)], 0, _, rfl, eP, gP, by rw [List.length_append, List.length_singleton]; omega, fun x mx => ?_, Nat.zero_le _, fun h3 => ?_, fun h3 => ?_, rfl⟩
              · rcases List.mem_append.mp mx with m1 | m1
                · exact hx x m1
                · obtain rfl := List.mem_singleton.mp m1
                  omega
              · rw [List.length_append, List.length_singleton] at h3
                rw [← hr']
                exact (OM.res_push h3 h1 hst).symm
              · rw [List.length_append, List.length_singleton] at h3
                rw [← hr']
                exact OM.res_full h3 h1 hst
          · have h1 : ¬ k' < OM.behW many gs := fun y => h1 (decide_eq_true (by omega))
            refine ⟨_, rfl, _, rfl, _, _, rfl, rfl, _, rfl, ?_⟩
            refine ite2 (fun h2 => absurd (of_decide_eq_true h2) (by omega)) (fun h2 => ?_)
            refine ⟨_, rfl, _, .inl ⟨_, SqL.of gG', rfl⟩, ?_⟩
            rcases nil_or_snoc gs with rfl | ⟨g0, x, rfl⟩
            · refine iteF (q1 ?_ _ eG')
              rw [← hr']
              exact OM.res_none (by omega)
            · have e0 : (g0 ++ [x]).map V.int = g0.map V.int ++ [V.int x] := by rw [List.map_append] <;> rfl
              have ne : ((g0 ++ [x]).map V.int).isEmpty = false := by rw [e0]; simp
              have hx0 := hx x (List.mem_append.mpr (.inr (List.mem_singleton.mpr rfl)))
              rw [List.length_append, List.length_singleton] at h
              refine ite2 (fun _ => ?_) (fun h2 => (h2 (by rw [e0]; simp)).elim)
              refine ⟨_, rfl, .inl ⟨rfl, _, SqL.of gG'⟩, D, _, .int x, rfl, rfl, gG', ?_, _, _, rfl, rfl, ?_⟩
              · rw [e0, List.length_append, List.length_singleton, Nat.add_sub_cancel, List.getElem?_append_right (Nat.le_refl _), Nat.sub_self] <;> rfl
              have gP : (upd G' D (.lst ((g0 ++ [x]).map V.int).dropLast)) D = some (.lst (g0.map V.int)) := by rw [upd_same, e0, List.dropLast_concat]
              have eP : Same H (upd G' D (.lst ((g0 ++ [x]).map V.int).dropLast)) := fun b o eb => by
                rw [upd_ne (ne_of_none eb nD0)]
                exact eG' _ _ eb
              have ex : V.int (x + 1) = V.int (((x.toNat + 1 : Nat)) : Int) := by congr 1; omega
              refine ⟨OM.mu many ss.length g0 (x.toNat + 1), Nat.lt_of_lt_of_le (OM.mu_pop hx0.1) ml, g0, x.toNat + 1, _, by rw [← ex] <;> rfl, eP, gP, by omega, fun y my => hx y (List.mem_append.mpr (.inl my)), by omega, fun h3 => ?_, fun h3 => by omega, rfl⟩
              rw [← hr']
              exact (OM.res_pop (by omega)).symm
        · obtain ⟨x4, h4, x5, h5, i, j, z1, z2, c, z3, h⟩ := h
          refine ⟨x4, h4, x5, h5, i, j, z1, z2, c, z3, ?_⟩
          cases c with
          | false => exact hq _ _ h
          | true =>
            obtain ⟨y0, k0, y3, k3, y4, k4, y2, k2, a', b', ss', ns', u', m', z4, row', g', hb', ln', hl', qq⟩ := h
            refine ⟨y0, k0, y3, k3, y4, k4, y2, k2, a', b', ss', ns', u', m', z4, row', g', hb', ln', hl', fun H' e' => ?_⟩
            obtain ⟨c2, z5, q⟩ := qq H' e'
            exact ⟨c2, z5, hq _ _ q⟩
      · have h : ¬ gs.length < ss.length := fun y => h (decide_eq_true (by rw [List.length_map, lu]; omega))
        exact ⟨_, rfl, q2 gs (hr2 (by omega)) G D eG nD0 gG⟩
    · obtain ⟨x3, h3, p3, ys3, z1, ty3, x0, h0, p0, ys0, z2, ty0, i, j, z3, z4, c, z5, q⟩ := h
      exact ⟨x3, h3, p3, ys3, z1, ty3, x0, h0, p0, ys0, z2, ty0, i, j, z3, z4, c, z5, hq _ _ q⟩
end
end OB
namespace OB
open PySem PySem.Spec PyProof.Rows L2 LamX
abbrev sMGiv : Stmt := top 32
abbrev sMFor : Stmt := top 33
def optN (o : Option Nat) : V := match o with
  | some i => .int (i : Nat)
  | none => .non
def spMGiv (K : PySem.W.Frag) (CS CM : Addr) : Sp := fun vs H Q E => ∃ (v m1 m2 : V) (k1 k2 : Kd) (r : Nat ⊕ List S3), vs = [v, m1, m2] ∧ ArgS K H v r ∧ Any K H m1 k1 ∧ Any K H m2 k2 ∧ (∀ i, r = .inl i → Bad E H CS "index" (.int (i : Nat))) ∧ ∀ ss, r = .inr ss → (oneV m1 = false → Bad E H CM "many" m1) ∧ (oneV m1 = true → oneV m2 = false → Bad E H CM "many" m2) ∧
  (∀ n m : Nat, m1 = .int (n : Nat) → m2 = .int (m : Nat) → 0 < n → 0 < m → n ≤ 1000 ∧ NewL H (OM.firstL ss m n ss.length []) Q)
def spMFor (K : PySem.W.Frag) (CS CM : Addr) : Sp := fun vs H Q E => ∃ (v m : V) (k : Kd) (r : Nat ⊕ List S3), vs = [v, m] ∧ ArgS K H v r ∧ Any K H m k ∧ (∀ i, r = .inl i → Bad E H CS "index" (.int (i : Nat))) ∧ ∀ ss, r = .inr ss → (oneV m = false → Bad E H CM "many" m) ∧
  (∀ n : Nat, m = .int (n : Nat) → 0 < n → n ≤ 1000 ∧ ∀ o, OM.NeedM ss n o → ∀ H', Same H H' → Q (optN o) H')
theorem NewL.same {H H1 : Hp} {res : Option (List Int)} {Q : VK} (h : NewL H res Q) (e : Same H H1) : NewL H1 res Q :=
  ⟨fun z H' e' => h.1 z H' (e.trans e'), fun ns z H' D e' n g => h.2 ns z H' D (e.trans e') (e.free n) g⟩
section
variable {P : Program} {w : World} {K : PySem.W.Frag} {mg : Str → Option Value} {base : Heap}
theorem scMGiv : FnScope ["stays", "many", "marks", "told"] ["stays", "many", "marks"] (defScope sMGiv) := ⟨rfl, rfl, rfl, by decide +kernel, rfl, by decide +kernel, by decide +kernel⟩
theorem ok_mgiv {f fF fM fT CS CM : Addr} {fd fdF fdM fdT : FuncData} (F : Fun K "marked_giving" "marked_giving" sMGiv f fd)
    (GF : FnOk P w K mg base CX0 5 fF fdF ["stays", "many", "marks"] spFirstM) (gF : mg "first_marked_giving" = some (.ref fF)) (kF : PySem.W.keepIn K (.ref fF) = true) (bF : Binds K fdF ["stays", "many", "marks"] [])
    (GM : FnOk P w K mg base (L2.CX P w) 3 fM fdM ["many"] (spOne K CM)) (gM : mg "check_from_one" = some (.ref fM)) (kM : PySem.W.keepIn K (.ref fM) = true) (bM : Binds K fdM ["many"] [])
    (GT : FnOk P w K mg base (L2.CX P w) 5 fT fdT ["stays"] (spTold K CS)) (gT : mg "told_stays" = some (.ref fT)) (kT : PySem.W.keepIn K (.ref fT) = true) (bT : Binds K fdT ["stays"] []) : FnOk P w K mg base (L2.CX P w) 6 f fd ["stays", "many", "marks"] (spMGiv K CS CM) := by
  refine F.okX scMGiv (fun vs H Q E h => ?_) (fun cdv A outer s H vs Q E hr h => ?_)
  · obtain ⟨v, m1, m2, k1, k2, r, rfl, _⟩ := h
    rfl
  · obtain ⟨v, m1, m2, k1, k2, r, rfl, ha, hm1, hm2, hb, q⟩ := h
    have nd := scMGiv.nd
    have hr3 := hr.mono (show 3 ≤ 5 by decide)
    refine ⟨_, pss_cons (ps_set (i := 3) nd rfl (Or.inl rfl) (pe_callS GT hr (by rfl) gT kT bT (fun σ => passAt (takes_of rfl rfl rfl rfl) σ) (pa_cons (pv 0) pa_nil)))
      (pss_cons (ps_expr (pe_callS GM hr3 (by rfl) gM kM bM (fun σ => passAt (takes_of rfl rfl rfl rfl) σ) (pa_cons (pv 1) pa_nil)))
      (pss_cons (ps_expr (pe_callS GM hr3 (by rfl) gM kM bM (fun σ => passAt (takes_of rfl rfl rfl rfl) σ) (pa_cons (pv 2) pa_nil)))
      (pss_one (ps_ret (pe_call GF hr (by rfl) gF kF bF .nil pass0 (pa_cons (pv 3) (pa_cons (pv 1) (pa_cons (pv 2) pa_nil)))))))), ?_⟩
    refine ⟨_, rfl, ?_⟩
    dsimp only [tNil]
    refine told_arg (E := E) ha hb fun ss er H1 D e1 nD row => ?_
    subst er
    obtain ⟨q1, q2, q3⟩ := q ss rfl
    obtain ⟨g, l⟩ := ha.good
    refine ⟨_, rfl, m1, k1, rfl, hm1.same e1, fun z => (q1 z).same e1, fun z1 H2 e2 => ?_⟩
    have e12 := e1.trans e2
    refine ⟨_, rfl, m2, k2, rfl, hm2.same e12, fun z => (q2 z1 z).same e12, fun z2 H3 e3 => ?_⟩
    obtain ⟨n, rfl, n0⟩ := one_nat z1
    obtain ⟨m, rfl, m0⟩ := one_nat z2
    obtain ⟨nl, q4⟩ := q3 n m rfl rfl n0 m0
    exact ⟨_, rfl, _, rfl, _, rfl, D, ss, n, m, rfl, row.same (e2.trans e3), g, l, nl, q4.same (e12.trans e3)⟩
theorem scMFor : FnScope ["stays", "many", "told", "marks"] ["stays", "many"] (defScope sMFor) := ⟨rfl, rfl, rfl, by decide +kernel, rfl, by decide +kernel, by decide +kernel⟩
theorem ok_mfor {f fF fM fT CS CM : Addr} {fd fdF fdM fdT : FuncData} (F : Fun K "marks_for" "marks_for" sMFor f fd) (T : TxtC mg) (rg : mg "range" = none) (mx : mg "max" = none)
    (GF : FnOk P w K mg base CX0 5 fF fdF ["stays", "many", "marks"] spFirstM) (gF : mg "first_marked_giving" = some (.ref fF)) (kF : PySem.W.keepIn K (.ref fF) = true) (bF : Binds K fdF ["stays", "many", "marks"] [])
    (GM : FnOk P w K mg base (L2.CX P w) 3 fM fdM ["many"] (spOne K CM)) (gM : mg "check_from_one" = some (.ref fM)) (kM : PySem.W.keepIn K (.ref fM) = true) (bM : Binds K fdM ["many"] [])
    (GT : FnOk P w K mg base (L2.CX P w) 5 fT fdT ["stays"] (spTold K CS)) (gT : mg "told_stays" = some (.ref fT)) (kT : PySem.W.keepIn K (.ref fT) = true) (bT : Binds K fdT ["stays"] []) : FnOk P w K mg base (L2.CX P w) 6 f fd ["stays", "many"] (spMFor K CS CM) := by
  refine F.okX scMFor (fun vs H Q E h => ?_) (fun cdv A outer s H vs Q E hr h => ?_)
  · obtain ⟨v, m, k, r, rfl, _⟩ := h
    rfl
  · obtain ⟨v, m, k, r, rfl, ha, hm, hb, q⟩ := h
    have nd := scMFor.nd
    have hr3 := hr.mono (show 3 ≤ 5 by decide)
    refine ⟨_, pss_cons (ps_set (i := 2) nd rfl (Or.inl rfl) (pe_callS GT hr (by rfl) gT kT bT (fun σ => passAt (takes_of rfl rfl rfl rfl) σ) (pa_cons (pv 0) pa_nil)))
      (pss_cons (ps_expr (pe_callS GM hr3 (by rfl) gM kM bM (fun σ => passAt (takes_of rfl rfl rfl rfl) σ) (pa_cons (pv 1) pa_nil)))
      (pss_cons (ps_for (passes_of rfl) rfl (pi_range2 (by rfl) rg (pa_cons pe_int (pa_cons (pe_op op_add (pe_callB (call_max2 rfl) (by rfl) mx (by decide +kernel) (pa_cons pe_int (pa_cons (pe_callB call_len_seq (by rfl) T.len PySem.boot_len (pa_cons (pv 2) pa_nil)) pa_nil))) pe_int) pa_nil))) (pg_name (i := 3) nd rfl (Or.inl rfl))
        (pss_one (ps_if (pt_cmpR op_notN (pe_call GF hr (by rfl) gF kF bF .nil pass0 (pa_cons (pv 2) (pa_cons (pv 1) (pa_cons (pv 3) pa_nil)))) pe_non (nomark _)) (pss_one (ps_ret (pv 3))) pss_nil)))
      (pss_one (ps_ret pe_non)))), ?_⟩
    refine ⟨_, rfl, ?_⟩
    dsimp only [tNil]
    refine told_arg (E := E) ha hb fun ss er H1 D e1 nD row => ?_
    subst er
    obtain ⟨q1, q2⟩ := q ss rfl
    obtain ⟨g, l⟩ := ha.good
    refine ⟨_, rfl, m, k, rfl, hm.same e1, fun z => (q1 z).same e1, fun z1 H2 e2 => ?_⟩
    have e12 := e1.trans e2
    obtain ⟨n, rfl, n0⟩ := one_nat z1
    obtain ⟨nl, q3⟩ := q2 n rfl n0
    have row2 := row.same e2
    obtain ⟨us, hu, pu⟩ := id row2
    have lu := pu.length
    refine ⟨_, rfl, D, us, rfl, .inl (SqL.of hu), 1, us.length, rfl, _, 1, rfl, rfl, 1, _, rfl, ?_, ?_⟩
    · split <;> omega
    have hn : ((if ((us.length : Nat) : Int) > 1 then ((us.length : Nat) : Int) else 1) + 1 - 1).toNat = max 1 ss.length := by
      rw [lu]
      split <;> omega
    rw [hn]
    refine for_it walk_range (fun i σ G => (∃ o : Option V, σ = [some v, some (.int ((n : Nat) : Int)), some (.ref D), o]) ∧ Same H2 G ∧ ∀ j, 1 ≤ j → j ≤ i → ¬ OM.solB ss n j)
      ⟨⟨_, rfl⟩, Same.refl _, fun j h1 h2 => by omega⟩ (fun i σ G _ z => trivial) (fun i x σ G G' hi z y => ?_) (fun σ G z => ?_)
    · obtain ⟨⟨o, rfl⟩, eG, no⟩ := z
      obtain ⟨rfl, rfl⟩ := y
      have ex : (1 : Int) + ((i : Nat) : Int) = (((i + 1 : Nat)) : Int) := by omega
      have ex : (fun i : Nat => V.int (1 + ((i : Nat) : Int))) i = V.int (((i + 1 : Nat)) : Int) := congrArg V.int ex
      rw [ex]
      refine ⟨_, rfl, _, rfl, _, rfl, D, ss, n, i + 1, rfl, row2.same eG, g, l, nl, fun hn H3 e3 => ?_, fun ns hn H3 L e3 nL gL => ?_⟩
      · refine ⟨rfl, _, rfl, iteF ?_⟩
        refine ⟨⟨_, rfl⟩, eG.trans e3, fun j h1 h2 => ?_⟩
        by_cases z : j = i + 1
        · rw [z]
          unfold OM.solB OM.ExL
          rw [hn]
          simp
        · exact no j h1 (by omega)
      · refine ⟨rfl, _, rfl, iteT ?_⟩
        refine ⟨_, rfl, q3 (some (i + 1)) ⟨by omega, by omega, ?_, fun j h1 h2 => no j h1 (by omega)⟩ _ (e12.trans (eG.trans e3))⟩
        unfold OM.solB OM.ExL
        rw [hn] <;> rfl
    · obtain ⟨⟨o, rfl⟩, eG, no⟩ := z
      exact q3 none (fun j h1 h2 => no j h1 h2) _ (e12.trans eG)
end
end OB
namespace OB
open PySem PySem.Spec PyProof.Rows L2 LamX
abbrev sLets : Stmt := top 43
def Ne : List Str := ["stays", "marks", "given", "at", "number", "some", "days", "k", "stay", "day"]
def scIn : Scope := { kind := .function, names := [(".0", .local), ("day", .cell), ("len", .globalImplicit), ("marks", .cell), ("some", .cell)], isGenerator := false, isCoroutine := false }
theorem cut_last (xs : List V) (y : V) : cutV (xs ++ [y]) none (some (-1)) = xs := by
  unfold cutV
  rw [List.length_append, List.length_singleton]
  have h1 : HT.sIx (xs.length + 1) (xs.length + 1) (some (-1)) = xs.length := by
    show (if (-1 : Int) < 0 then ((-1 : Int) + ((xs.length + 1 : Nat) : Int)).toNat else min (-1 : Int).toNat (xs.length + 1)) = _
    rw [if_pos (by decide)]
    omega
  have h2 : HT.sIx (xs.length + 1) 0 none = 0 := rfl
  rw [h1, h2, List.drop_zero, Nat.sub_zero, List.take_left]
def spLets : Sp := fun vs H Q _ => ∃ (a b : Addr) (ss : List S3) (ns : List Int) (at_ : Nat) (marks : Nat) (u : Int), vs = [.ref a, .int (marks : Nat), .ref b, .int (at_ : Nat), .int u] ∧ Row H a ss ∧ H b = some (.lst (ns.map V.int)) ∧ at_ ≤ ns.length ∧ at_ < ss.length ∧ ss.length ≤ 900 ∧ ∀ H', Same H H' → Q (.bl (OM.letsB (OM.lotW ss (ns.take at_) u) (OM.sAt ss at_) marks)) H'
theorem zip_take : ∀ {us : List V} {ns : List Int} {n : Nat}, (us.zip ns).take n = us.zip (ns.take n)
  | [], _, _ => by rw [List.zip_nil_left, List.zip_nil_left, List.take_nil]
  | _ :: _, [], _ => by rw [List.take_nil, List.zip_nil_right, List.take_nil]
  | _ :: _, _ :: _, 0 => by rw [List.take_zero, List.take_zero, List.zip_nil_right]
  | _ :: us, _ :: ns, n + 1 => by
    rw [List.zip_cons_cons, List.take_succ_cons, List.take_succ_cons, List.zip_cons_cons, zip_take]
theorem cB_step {ss : List S3} {i : Nat} {s : S3} {d : Int} (hs : ss[i]? = some s) : OM.cB ((OM.spans ss).take (i + 1)) d = OM.cB ((OM.spans ss).take i) d + (if s.1 ≤ d ∧ d ≤ s.2.1 + s.2.2 then 1 else 0) := by
  have hsp : (OM.spans ss)[i]? = some (s.1, s.2.1 + s.2.2) := by unfold OM.spans; rw [List.getElem?_map, hs] <;> rfl
  unfold OM.cB
  rw [List.take_add_one, hsp, List.countP_append]
  congr 1
  by_cases y : s.1 ≤ d ∧ d ≤ s.2.1 + s.2.2
  · rw [if_pos y]
    simp [y]
  · rw [if_neg y]
    simp only [Option.toList_some, List.countP_singleton]
    rw [if_neg (by simpa using y)]
theorem cB_small {ss : List S3} {i : Nat} {d : Int} (l : ss.length ≤ 1000) : OM.cB ((OM.spans ss).take i) d ≤ 1000 := by
  have h1 : OM.cB ((OM.spans ss).take i) d ≤ ((OM.spans ss).take i).length := List.countP_le_length
  unfold OM.spans at h1
  rw [List.length_take, List.length_map] at h1
  unfold OM.spans
  omega
section
variable {P : Program} {w : World} {K : PySem.W.Frag} {mg : Str → Option Value} {base : Heap}
theorem scLets : FnScope Ne ["stays", "marks", "given", "at", "number"] (defScope sLets) := ⟨rfl, rfl, rfl, by decide +kernel, rfl, by decide +kernel, by decide +kernel⟩
theorem ok_lets {f fL : Addr} {fd fdL : FuncData} (F : Fun K "_law_lets" "_law_lets" sLets f fd) (T : TxtC mg) (rg : mg "range" = none) (an : mg "any" = none) (mx : mg "max" = none) (mi : mg "min" = none)
    (GL : FnOk P w K mg base CX0 1 fL fdL ["stay"] spLast) (gL : mg "_law_last" = some (.ref fL)) (kL : PySem.W.keepIn K (.ref fL) = true) (bL : Binds K fdL ["stay"] []) : FnOk P w K mg base CX0 2 f fd ["stays", "marks", "given", "at", "number"] spLets := by
  refine F.ok scLets (fun vs H Q E h => ?_) (fun cdv A outer s H vs Q E hr h => ?_)
  · obtain ⟨a, b, ss, ns, k, m, u, rfl, _⟩ := h
    rfl
  · obtain ⟨a, b, ss, ns, n, marks, u, rfl, row, hb, ln, hn, hl, q⟩ := h
    have nd := scLets.nd
    refine ⟨_, pss_cons (ps_set (i := 5) nd rfl (Or.inr rfl) (pe_op op_cat (pe_lc (own := [("k", 7)]) (g := gName 7) (tt := tTest (tOp rEq (tOp (rIxL K) (tVar 2) (tVar 7)) (tVar 4))) rfl nd (pi_range1 (by rfl) rg (pa_cons (pv 3) pa_nil))
          (blkOk_by (N := Ne) (sc := defScope sLets) (by decide +kernel)) (fun _ _ _ _ _ => pg_name (i := 7) nd rfl (Or.inl rfl)) (fun _ _ _ _ _ => pts_one (pt_cmpR op_eq (pe_ix (ix_listK (K := K) rfl) (pv 2) (pv 7) (fun _ _ => rfl)) (pv 4) (nomark _))) (fun _ _ _ _ _ => pe_ix (ix_listK (K := K) rfl) (pv 0) (pv 7) (fun _ _ => rfl)))
          (pe_lst (pa_cons (pe_ix ix_list (pv 0) (pv 3) (fun _ _ => rfl)) pa_nil))))
      (pss_cons (ps_if (pt_val (pe_callB (cr_any rfl) (by rfl) an (by decide +kernel) (pa_cons (pe_lc (own := [("stay", 8)]) (g := gName 8) (tt := tYes) rfl nd (pi_list (pe_slice sl_list (pv 5) po_none (po_some (pe_un un_neg pe_int))))
          (blkOk_by (N := Ne) (sc := defScope sLets) (by decide +kernel)) (fun _ _ _ _ _ => pg_name (i := 8) nd rfl (Or.inl rfl)) (fun _ _ _ _ _ => pts_nil)
          (fun _ _ _ _ _ => pe_cmpR op_le (pe_callB (call_max2 rfl) (by rfl) mx (by decide +kernel) (pa_cons (pe_ix (ix_tupK (K := K) rfl) (pv 8) pe_int (fun _ _ => rfl)) (pa_cons (pe_ix (ix_tupK (K := K) rfl) (pe_ix (ix_listK (K := K) rfl) (pv 0) (pv 3) (fun _ _ => rfl)) pe_int (fun _ _ => rfl)) pa_nil)))
            (pe_callB (call_min2 rfl) (by rfl) mi (by decide +kernel) (pa_cons (pe_ix (ix_tupK (K := K) rfl) (pv 8) pe_int (fun _ _ => rfl)) (pa_cons (pe_ix (ix_tupK (K := K) rfl) (pe_ix (ix_listK (K := K) rfl) (pv 0) (pv 3) (fun _ _ => rfl)) pe_int (fun _ _ => rfl)) pa_nil))) (nomark _))) pa_nil))) (pss_one (ps_ret pe_bl)) pss_nil)
      (pss_cons (ps_setLc (i := 6) (own := [("stay", 8)]) (g := gName 8) (tt := tYes) rfl nd rfl rfl (sw_true rfl rfl rfl (by decide +kernel)) (pi_list (pv 5)) (blkOk_by (N := Ne) (sc := defScope sLets) (by decide +kernel)) (fun _ _ _ _ _ => pg_name (i := 8) nd rfl (Or.inl rfl)) (fun _ _ _ _ _ => pts_nil) (fun _ _ _ _ _ => pe_ix (ix_tupK (K := K) rfl) (pv 8) pe_int (fun _ _ => rfl)))
      (pss_one (ps_ret (pe_callB (cr_all rfl) (by rfl) T.all (by decide +kernel) (pa_cons (pe_lc (own := [("day", 9)]) (g := gName 9) (tt := tYes) rfl nd (pi_list (pv 6)) (blkOk_by (N := Ne) (sc := defScope sLets) (by decide +kernel)) (fun _ _ _ _ _ => pg_name (i := 9) nd rfl (Or.inr rfl)) (fun _ _ _ _ _ => pts_nil)
          (te := tOp (rI0 fun i j => .bl (decide (i ≤ j))) (tCB (lenR K) (tCons (tLc (iList K (tVar 5)) (gName 8) (tTest (tChain (rI0 fun i j => .bl (decide (i ≤ j))) (rI0 fun i j => .bl (decide (i ≤ j))) (tOp (rIxT K) (tVar 8) (tC (.int 0))) (tVar 9) (tCall spLast [] E0 (tCons (tVar 8) tNil)))) (tVar 8) [8]) tNil)) (tVar 1))
          (fun s1 H1 C1 cl1 fp1 => pe_cmpR op_le (pe_callB call_len_seq (by rfl) T.len PySem.boot_len (pa_cons (pe_lc (own := [("stay", 8)]) (g := gName 8) (tt := (tTest (tChain (rI0 fun i j => .bl (decide (i ≤ j))) (rI0 fun i j => .bl (decide (i ≤ j))) (tOp (rIxT K) (tVar 8) (tC (.int 0))) (tVar 9) (tCall spLast [] E0 (tCons (tVar 8) tNil))))) rfl nd (pi_list (pv 5)) (blkOk_by (N := Ne) (sc := scIn) (by decide +kernel)) (fun _ _ _ _ _ => pg_name (i := 8) nd rfl (Or.inl rfl))
              (fun _ _ _ _ _ => pts_one (pt_chain op_le op_le (pe_ix (ix_tupK (K := K) rfl) (pv 8) pe_int (fun _ _ => rfl)) (pv 9) (pe_call GL hr (by rfl) gL kL bL .nil pass0 (pa_cons (pv 8) pa_nil)))) (fun _ _ _ _ _ => pv 8)) pa_nil)) (pv 1) (nomark _))) pa_nil)))))), ?_⟩
    obtain ⟨us, hu, pu⟩ := id row
    have lu := pu.length
    have lz : ((us.zip ns).take n).length = n := by rw [List.length_take, List.length_zip]; omega
    refine ⟨_, rfl, ((n : Nat) : Int), rfl, by omega, by omega, fun A nA => ?_⟩
    rw [Int.toNat_natCast]
    refine lc_it walk_range (AccP A H (fun i => selV u ((us.zip ns).take i))) (acc_start rfl) (fun i G _ z => trivial) (fun i x G G' hi z y => ?_) (fun G z => ?_)
    · obtain ⟨rfl, rfl⟩ := y
      have ex : (fun i : Nat => V.int (0 + ((i : Nat) : Int))) i = V.int ((i : Nat) : Int) := congrArg V.int (by omega)
      rw [ex]
      have hk : ns[i]? = some ns[i] := List.getElem?_eq_getElem (by omega)
      have hv : us[i]? = some us[i] := List.getElem?_eq_getElem (by omega)
      generalize us[i] = xv at hv
      generalize ns[i] = kv at hk
      have hz : (us.zip ns)[i]? = some (xv, kv) := by
        rw [List.getElem?_zip_eq_some]
        exact ⟨hv, hk⟩
      have es := acc_same z (Same.refl H) nA
      have step : selV u ((us.zip ns).take (i + 1)) = selV u ((us.zip ns).take i) ++ (if kv = u then [xv] else []) := by rw [List.take_add_one, hz]; exact selV_snoc
      have ol : (selV u ((us.zip ns).take i)).length < sizeLine := by
        have := selV_len (u := u) (pr := (us.zip ns).take i)
        rw [List.length_take] at this
        rw [sizeLine_eq]
        omega
      refine ⟨rfl, ?_⟩
      refine ⟨_, rfl, _, rfl, b, _, (i : Nat), .int kv, rfl, rfl, SqL.of (es _ _ hb), atI_nat (by rw [List.getElem?_map, hk] <;> rfl), _, rfl, rfl, _, rfl, ?_⟩
      refine ite2 (fun h => ?_) (fun h => ?_)
      · have e : kv = u := V.int.inj (of_decide_eq_true h)
        rw [if_pos e] at step
        exact ⟨_, rfl, _, rfl, a, us, (i : Nat), xv, rfl, rfl, SqL.of (es _ _ hu), atI_nat hv, acc_in z (Same.refl _) ol step⟩
      · have e : ¬ kv = u := fun y => h (decide_eq_true (by rw [y]))
        rw [if_neg e, List.append_nil] at step
        exact acc_out z (Same.refl _) step
    have gA : G A = some (.lst (selV u ((us.zip ns).take n))) := z.2
    have e1 : Same H G := acc_same z (Same.refl H) nA
    clear z
    have hv : us[n]? = some us[n] := List.getElem?_eq_getElem (by omega)
    generalize us[n] = xv at hv
    obtain ⟨s, hs, sx, ev, hsx⟩ := Paired.at pu hv
    subst ev
    have es := OM.sAt_of hs
    rw [es] at q
    refine ⟨_, rfl, _, rfl, a, us, (n : Nat), .ref sx, rfl, rfl, SqL.of (e1 _ _ hu), atI_nat hv, by show 1 ≤ sizeLine; decide, fun Z nZ => ?_⟩
    have e2 : Same H (upd G Z (.lst [.ref sx])) := e1.trans (Same.new nZ)
    have gZ : (upd G Z (.lst [.ref sx])) Z = some (.lst [.ref sx]) := upd_same
    have gA := Same.new (u := .lst [.ref sx]) nZ _ _ gA
    generalize upd G Z (.lst [.ref sx]) = H2 at e2 gZ gA
    have pl : Paired (St H) (selV u ((us.zip ns).take n)) (OM.lotW ss (ns.take n) u) := by
      rw [zip_take]
      exact selV_pair pu
    have ll : (selV u ((us.zip ns).take n)).length ≤ 900 := by
      have := selV_len (u := u) (pr := (us.zip ns).take n)
      omega
    have ll2 := pl.length
    generalize OM.lotW ss (ns.take n) u = lot at q pl ll2
    generalize selV u ((us.zip ns).take n) = lotU at gA pl ll ll2
    refine ⟨A, Z, _, _, rfl, rfl, gA, gZ, by rw [sizeLine_eq, List.length_singleton]; omega, fun S nS => ?_⟩
    have e3 : Same H (upd H2 S (.lst (lotU ++ [.ref sx]))) := e2.trans (Same.new nS)
    have gS : (upd H2 S (.lst (lotU ++ [.ref sx]))) S = some (.lst (lotU ++ [.ref sx])) := upd_same
    show tSeq _ _ _ _ (upd H2 S (.lst (lotU ++ [.ref sx])))
    generalize upd H2 S (.lst (lotU ++ [.ref sx])) = H3 at e3 gS ⊢
    clear e2 e1 gA gZ nA nZ nS
    have pS : Paired (St H3) (lotU ++ [.ref sx]) (lot ++ [s]) := Paired.snoc (Paired.imp (fun v s h => h.same e3) pl) ⟨sx, rfl, e3 _ _ hsx⟩
    refine ⟨_, rfl, ⟨_, rfl, _, rfl, S, _, rfl, SqL.of gS, fun C nC => ?_⟩⟩
    rw [cut_last]
    have e4 : Same H3 (upd H3 C (.lst lotU)) := Same.new nC
    have gC : (upd H3 C (.lst lotU)) C = some (.lst lotU) := upd_same
    generalize upd H3 C (.lst lotU) = H4 at e4 gC ⊢
    have gS4 := e4 _ _ gS
    have e04 := e3.trans e4
    refine ⟨C, rfl, ⟨_, SqL.of gC⟩, fun B nB => ?_⟩
    have lm : ((lot.map fun t => decide ((if s.1 > t.1 then s.1 else t.1) ≤ (if s.2.1 < t.2.1 then s.2.1 else t.2.1))).map V.bl).length = lotU.length := by rw [List.length_map, List.length_map, ll2]
    refine lc_it (walk_list (xs := lotU)) (AccP B H4 (mapTo ((lot.map fun t => decide ((if s.1 > t.1 then s.1 else t.1) ≤ (if s.2.1 < t.2.1 then s.2.1 else t.2.1))).map V.bl))) (acc_start rfl) (fun i G _ z => Same.seq (acc_same z (Same.refl H4) nB) (SqL.of gC)) (fun i x G G' hi z y => ?_) (fun G z => ?_)
    · obtain ⟨rfl, hx⟩ := y
      obtain ⟨t, ht0, ti, rfl, ht⟩ := Paired.at pl hx
      have es := acc_same z (Same.refl H4) nB
      have ht := es _ _ (e04 _ _ ht)
      have hsx2 := es _ _ (e04 _ _ hsx)
      have hu2 := es _ _ (e04 _ _ hu)
      refine ⟨rfl, ?_⟩
      dsimp only [tYes]
      rw [if_pos rfl]
      refine ⟨_, rfl, ti, _, ((0 : Nat) : Int), .int t.1, rfl, rfl, SqT.of ht, atI_nat rfl, _, rfl, _, rfl, a, us, (n : Nat), .ref sx, rfl, rfl, SqL.of hu2, atI_nat hv, sx, _, ((0 : Nat) : Int), .int s.1, rfl, rfl, SqT.of hsx2, atI_nat rfl, t.1, s.1, rfl,
        _, rfl, ti, _, ((1 : Nat) : Int), .int t.2.1, rfl, rfl, SqT.of ht, atI_nat rfl, _, rfl, _, rfl, a, us, (n : Nat), .ref sx, rfl, rfl, SqL.of hu2, atI_nat hv, sx, _, ((1 : Nat) : Int), .int s.2.1, rfl, rfl, SqT.of hsx2, atI_nat rfl, t.2.1, s.2.1, rfl, _, _, rfl, rfl, ?_⟩
      exact acc_in z (Same.refl _) (mapTo_len (by rw [lm, sizeLine_eq]; omega)) (mapTo_succ (by
        rw [List.getElem?_map, List.getElem?_map, ht0] <;> rfl))
    rw [← lm] at z
    have gB : G B = some (.lst ((lot.map fun t => decide ((if s.1 > t.1 then s.1 else t.1) ≤ (if s.2.1 < t.2.1 then s.2.1 else t.2.1))).map V.bl)) := by rw [z.2, mapTo_all]
    have e5 : Same H4 G := acc_same z (Same.refl H4) nB
    refine ⟨B, _, rfl, SqL.of gB, _, rfl, ?_⟩
    have ea : (lot.map fun t => decide ((if s.1 > t.1 then s.1 else t.1) ≤ (if s.2.1 < t.2.1 then s.2.1 else t.2.1))).any id = lot.any fun t => decide ((if s.1 > t.1 then s.1 else t.1) ≤ (if s.2.1 < t.2.1 then s.2.1 else t.2.1)) := by rw [List.any_map] <;> rfl
    rw [ea]
    clear ea z gB lm
    unfold OM.letsB at q
    cases hany : lot.any fun t => decide ((if s.1 > t.1 then s.1 else t.1) ≤ (if s.2.1 < t.2.1 then s.2.1 else t.2.1)) with
    | true =>
      rw [hany] at q
      exact iteT (q _ (e04.trans e5))
    | false =>
    rw [hany] at q
    refine iteF ?_
    have e05 := e04.trans e5
    have gS5 := e5 _ _ gS4
    have pS5 : Paired (St G) (lotU ++ [.ref sx]) (lot ++ [s]) := Paired.imp (fun v s h => h.same (e4.trans e5)) pS
    have lU := pS5.length
    have lL : (lot ++ [s]).length ≤ 1000 := by rw [List.length_append, List.length_singleton]; omega
    clear hany gS4 gC nC nB pl pS gS ll ll2 e4 e5 e04 e3
    generalize lotU ++ [V.ref sx] = U at *
    generalize lot ++ [s] = L at *
    refine ⟨_, rfl, S, rfl, ⟨_, SqL.of gS5⟩, fun D nD => ?_⟩
    have lm : ((L.map fun t => t.1).map V.int).length = U.length := by rw [List.length_map, List.length_map, lU]
    refine lc_it (walk_list (xs := U)) (AccP D G (mapTo ((L.map fun t => t.1).map V.int))) (acc_start rfl) (fun i G' _ z => Same.seq (acc_same z (Same.refl G) nD) (SqL.of gS5)) (fun i x G' G'' hi z y => ?_) (fun G' z => ?_)
    · obtain ⟨rfl, hx⟩ := y
      obtain ⟨t, ht0, ti, rfl, ht⟩ := Paired.at pS5 hx
      have ht := acc_same z (Same.refl G) nD _ _ ht
      refine ⟨rfl, ?_⟩
      dsimp only [tYes]
      rw [if_pos rfl]
      refine ⟨_, rfl, ti, _, ((0 : Nat) : Int), .int t.1, rfl, rfl, SqT.of ht, atI_nat rfl, ?_⟩
      exact acc_in z (Same.refl _) (mapTo_len (by rw [lm, sizeLine_eq]; omega)) (mapTo_succ (by
        rw [List.getElem?_map, List.getElem?_map, ht0] <;> rfl))
    rw [← lm] at z
    have gD : G' D = some (.lst ((L.map fun t => t.1).map V.int)) := by rw [z.2, mapTo_all]
    have e6 : Same G G' := acc_same z (Same.refl G) nD
    clear z
    have gS6 := e6 _ _ gS5
    have pS6 : Paired (St G') U L := Paired.imp (fun v s h => h.same e6) pS5
    refine ⟨_, rfl, D, rfl, ⟨_, SqL.of gD⟩, fun W nW => ?_⟩
    have lw : ((L.map fun t => decide ((OM.cB (OM.spans L) t.1 : Int) ≤ marks)).map V.bl).length = ((L.map fun t => t.1).map V.int).length := by simp
    refine lc_it (walk_list (xs := (L.map fun t => t.1).map V.int)) (AccP W G' (mapTo ((L.map fun t => decide ((OM.cB (OM.spans L) t.1 : Int) ≤ marks)).map V.bl))) (acc_start rfl) (fun i G2 _ z => Same.seq (acc_same z (Same.refl G') nW) (SqL.of gD)) (fun i x G2 G3 hi z y => ?_) (fun G2 z => ?_)
    · obtain ⟨rfl, hx⟩ := y
      rw [lm] at hi
      have hL : L[i]? = some L[i] := List.getElem?_eq_getElem (by omega)
      rw [List.getElem?_map, List.getElem?_map, hL] at hx
      obtain rfl := Option.some.inj hx
      have ew := acc_same z (Same.refl G') nW
      have gS7 := ew _ _ gS6
      refine ⟨rfl, ?_⟩
      dsimp only [tYes]
      rw [if_pos rfl]
      refine ⟨_, rfl, S, rfl, ⟨_, SqL.of gS7⟩, fun Y nY => ?_⟩
      refine lc_it (walk_list (xs := U)) (fun j G4 => ButS Y G3 G4 ∧ ∃ acc, G4 Y = some (.lst acc) ∧ acc.length = OM.cB ((OM.spans L).take j) L[i].1) ⟨ButS.put, [], upd_same, by rw [List.take_zero] <;> rfl⟩ (fun j G4 _ z => SqL.of (z.1 _ _ (ne_of_none gS7 nY) gS7)) (fun j x G4 G5 hj z2 y => ?_) (fun G4 z2 => ?_)
      · obtain ⟨rfl, hx⟩ := y
        obtain ⟨B2, acc, gY, la⟩ := z2
        obtain ⟨t, ht0, ti, rfl, ht⟩ := Paired.at pS6 hx
        have ht := ew _ _ ht
        have ht2 := B2 _ _ (ne_of_none ht nY) ht
        have st := cB_step (d := L[i].1) ht0
        have al := cB_small (ss := L) (i := j) (d := L[i].1) lL
        refine ⟨rfl, _, rfl, ti, _, ((0 : Nat) : Int), .int t.1, rfl, rfl, SqT.of ht2, atI_nat rfl, _, rfl, t.1, _, rfl, rfl, _, rfl, ?_⟩
        refine ite2 (fun h1 => ⟨_, rfl, _, t, rfl, ⟨ti, rfl, ht2⟩, fun G6 e6 => ⟨_, _, rfl, rfl, _, rfl, ?_⟩⟩) (fun h1 => ⟨_, rfl, ?_⟩)
        · refine ite2 (fun h2 => ?_) (fun h2 => ?_)
          · rw [if_pos ⟨of_decide_eq_true h1, of_decide_eq_true h2⟩] at st
            exact ⟨_, rfl, acc, e6 _ _ gY, by rw [sizeLine_eq]; omega, (B2.trans (ButS.same e6)).trans ButS.put, _, upd_same, by rw [List.length_append, la, st] <;> rfl⟩
          · rw [if_neg (fun y => h2 (decide_eq_true y.2))] at st
            exact ⟨B2.trans (ButS.same e6), acc, e6 _ _ gY, by rw [la, st] <;> rfl⟩
        · rw [if_neg (fun y => h1 (decide_eq_true y.1))] at st
          exact iteF ⟨B2, acc, gY, by rw [la, st] <;> rfl⟩
      · obtain ⟨B2, acc, gY, la⟩ := z2
        have sl : (OM.spans L).length = U.length := by unfold OM.spans; rw [List.length_map, lU]
        rw [← sl, List.take_length] at la
        refine ⟨Y, acc, rfl, .inl (SqL.of gY), _, rfl, _, _, rfl, rfl, ?_⟩
        rw [la]
        exact acc_in z (fun b o e => B2 b o (ne_of_none e nY) e) (mapTo_len (by rw [lw, lm, sizeLine_eq]; omega)) (mapTo_succ (by
          rw [List.getElem?_map, List.getElem?_map, hL] <;> rfl))
    rw [← lw] at z
    have gW : G2 W = some (.lst ((L.map fun t => decide ((OM.cB (OM.spans L) t.1 : Int) ≤ marks)).map V.bl)) := by rw [z.2, mapTo_all]
    refine ⟨W, _, rfl, SqL.of gW, ?_⟩
    have ea : (L.map fun t => decide ((OM.cB (OM.spans L) t.1 : Int) ≤ marks)).all id = L.all fun t => decide ((OM.cB (OM.spans L) t.1 : Int) ≤ marks) := by rw [List.all_map] <;> rfl
    rw [ea]
    exact q _ ((e05.trans e6).trans (acc_same z (Same.refl G') nW))
end
end OB
namespace OB
open PySem PySem.Spec PyProof.Rows L2 LamX
abbrev sClose : Stmt := top 40
def spClose : Sp := fun vs H Q _ => ∃ (p : Addr) (n : Nat), vs = [.ref p] ∧ Src n H p ∧ n < 100000000 ∧ ∀ H' D ss, ButS p H H' → Src (n + 1000) H' p → H D = none → D ≠ p → Row H' D ss → Good ss → SmallS ss → ss.length ≤ 8 → Q (.ref D) H'
section
variable {P : Program} {w : World} {K : PySem.W.Frag} {mg : Str → Option Value} {base : Heap}
theorem scClose : FnScope ["stream", "many", "span", "scale", "found", "k", "begin"] ["stream"] (defScope sClose) := ⟨rfl, rfl, rfl, by decide +kernel, rfl, by decide +kernel, by decide +kernel⟩
theorem ok_close {f fD fP : Addr} {fd fdD fdP : FuncData} (F : Fun K "_law_close" "_law_close" sClose f fd) (T : TxtD mg)
    (GD : FnOk P w K mg base CX0 1 fD fdD ["stream", "many"] spDraw) (gD : mg "_law_draw" = some (.ref fD)) (kD : PySem.W.keepIn K (.ref fD) = true) (bD : Binds K fdD ["stream", "many"] [])
    (GP : FnOk P w K mg base CX0 2 fP fdP ["stream", "things"] (spPick K)) (gP : mg "_law_pick" = some (.ref fP)) (kP : PySem.W.keepIn K (.ref fP) = true) (bP : Binds K fdP ["stream", "things"] []) : FnOk P w K mg base CX0 3 f fd ["stream"] spClose := by
  refine F.ok scClose (fun vs H Q E h => ?_) (fun cdv A outer s H vs Q E hr h => ?_)
  · obtain ⟨p, n, rfl, _⟩ := h
    rfl
  · obtain ⟨p, n, rfl, S, hn, q⟩ := h
    have nd := scClose.nd
    have hr1 := hr.mono (show 1 ≤ 2 by decide)
    refine ⟨_, pss_cons (ps_par (i := 1) (j := 2) (by rfl) nd rfl rfl (by decide) rfl rfl (pa_cons (pe_call GD hr1 (by rfl) gD kD bD .nil pass0 (pa_cons (pv 0) (pa_cons pe_int pa_nil))) (pa_cons (pe_call GP hr (by rfl) gP kP bP .nil pass0 (pa_cons (pv 0) (pa_cons (pe_lst (pa_cons pe_int (pa_cons pe_int (pa_cons pe_int pa_nil)))) pa_nil))) pa_nil)) (by rfl))
      (pss_cons (ps_set (i := 3) nd rfl (Or.inl rfl) (pe_call GP hr (by rfl) gP kP bP .nil pass0 (pa_cons (pv 0) (pa_cons (pe_lst (pa_cons pe_int (pa_cons pe_int (pa_cons pe_int (pa_cons (pe_op op_add (pe_op op_pow pe_int pe_int) pe_int) pa_nil))))) pa_nil))))
      (pss_cons (ps_set (i := 4) nd rfl (Or.inl rfl) (pe_lst pa_nil))
      (pss_cons (ps_for PassesOwn.never rfl (pi_range1 (by rfl) T.rng (pa_cons (pv 1) pa_nil)) (pg_name (i := 5) nd rfl (Or.inl rfl))
        (pss_cons (ps_set (i := 6) nd rfl (Or.inl rfl) (pe_call GD hr1 (by rfl) gD kD bD .nil pass0 (pa_cons (pv 0) (pa_cons (pv 2) pa_nil))))
        (pss_one (ps_expr (pe_bm PySem.F.plainAttrs_list PySem.F.slot_list_append PySem.F.type_list_append mt_append (pv 4)
          (pa_cons (pe_tup (pa_cons (pe_op op_mul (pv 3) (pv 6)) (pa_cons (pe_op op_mul (pv 3) (pe_op op_add (pv 6) (pe_call GD hr1 (by rfl) gD kD bD .nil pass0 (pa_cons (pv 0) (pa_cons pe_int pa_nil))))) (pa_cons (pe_op op_mul (pv 3) (pe_call GD hr1 (by rfl) gD kD bD .nil pass0 (pa_cons (pv 0) (pa_cons pe_int pa_nil)))) pa_nil)))) pa_nil))))))
      (pss_one (ps_ret (pv 4)))))), ?_⟩
    refine ⟨_, rfl, p, 9, n, rfl, S, by omega, by decide, by decide, fun G1 many B1 S1 a0 a1 => ?_⟩
    refine ⟨_, rfl, by show 3 ≤ sizeLine; decide, fun t nt => ?_⟩
    refine pick_int (E := E0) (is := [3, 6, 9]) S1 (by omega) nt (by decide) (by decide) fun G2 span B2 S2 hsp => ?_
    have sp0 : 0 < span ∧ span < 100 := by
      simp at hsp
      omega
    refine ⟨_, _, rfl, _, rfl, 10, 9, rfl, rfl, ⟨by decide, by decide, by decide⟩, _, 7, rfl, rfl, by show 4 ≤ sizeLine; decide, fun t2 nt2 => ?_⟩
    refine pick_int (E := E0) (is := [1, 1, 1, 1000000007]) S2 (by omega) nt2 (by decide) (by decide) fun G3 scale B3 S3 hsc => ?_
    have sc0 : 0 < scale ∧ scale < 10000000000 := by
      simp at hsc
      omega
    refine ⟨Nat.zero_le _, fun D nD => ?_⟩
    have Dp : D ≠ p := S3.ne nD
    have B03 := (B1.trans B2).trans B3
    have nD0 : H D = none := S3.free B03 nD
    have B4 : ButS p H (upd G3 D (.lst [])) := B03.trans (ButS.same (Same.new nD))
    have S4 : Src (n + 3) (upd G3 D (.lst [])) p := S3.but nD
    have gD4 : (upd G3 D (.lst [])) D = some (.lst []) := upd_same
    show tSeq _ _ _ _ (upd G3 D (.lst []))
    generalize upd G3 D (.lst []) = G4 at B4 S4 gD4 ⊢
    refine ⟨_, rfl, many, rfl, by omega, by omega, ?_⟩
    refine for_range (n := many.toNat) (fun i σ G => (∃ o5 o6 : Option V, σ = [some (.ref p), some (.int many), some (.int span), some (.int scale), some (.ref D), o5, o6]) ∧ ButS p H G ∧ Src (n + 3 + 3 * i) G p ∧ ∃ ss, Row G D ss ∧ Good ss ∧ SmallS ss ∧ ss.length = i)
      ⟨⟨_, _, rfl⟩, B4, S4, [], ⟨[], gD4, .nil⟩, fun s m => (by cases m), fun s m => (by cases m), rfl⟩ ?_ ?_
    · rintro i σ G hi ⟨⟨o5, o6, rfl⟩, B, S, ss, row, g, sm, ls⟩
      have hi60 : i < 60 := by omega
      refine ⟨_, rfl, _, rfl, p, span, _, rfl, S, by omega, sp0.1, ?_, fun J1 begin C1 T1 b0 b1 => ?_⟩
      · have e : span.natAbs < 1000000 := by omega
        exact Nat.lt_of_lt_of_le e (Nat.le_trans (by decide : 1000000 ≤ 2 ^ 20) (Nat.pow_le_pow_right (by decide) (by decide)))
      obtain ⟨vs3, hv3, _⟩ := row.but S Dp C1
      refine ⟨_, rfl, .inl ⟨rfl, vs3, SqL.of hv3⟩, _, rfl, _, rfl, scale, begin, rfl, rfl, .inl ⟨by omega, by omega⟩, _, rfl, _, rfl, _, rfl, p, 4, _, rfl, T1, by omega, by decide, by decide, fun J2 x C2 T2 x0 x1 => ?_⟩
      refine ⟨begin, x, rfl, rfl, scale, _, rfl, rfl, .inl ⟨by omega, by omega⟩, _, rfl, _, rfl, p, 6, _, rfl, T2, by omega, by decide, by decide, fun J4 life C4 T4 l0 l1 => ⟨scale, life, rfl, rfl, .inl ⟨by omega, by omega⟩, by show 3 ≤ sizeLine; decide, fun t nt => ?_⟩⟩
      obtain ⟨vs, hv, pv⟩ := row.but S Dp ((C1.trans C2).trans C4)
      have pv2 : Paired (St (upd J4 t (.tup [.int (scale * begin), .int (scale * (begin + x)), .int (scale * life)]))) vs ss := Paired.imp (fun _ _ z => St.same z (Same.new nt)) pv
      have hv2 := Same.new (u := .tup [.int (scale * begin), .int (scale * (begin + x)), .int (scale * life)]) nt _ _ hv
      have lv := pv.length
      refine ⟨D, vs, _, rfl, rfl, hv2, by rw [sizeLine_eq]; omega, ⟨_, _, rfl⟩, fun b o nb e => (by rw [upd_ne (ne_of_none e nD0)]; exact ((B.trans (C1.trans (C2.trans C4))).trans (ButS.same (Same.new nt))) b o nb e), ((T4.but nt).put Dp).mono (by omega), ss ++ [(scale * begin, scale * (begin + x), scale * life)], ?_, ?_, ?_, by rw [List.length_append, ls] <;> rfl⟩
      · exact Row.put (n := 0) (p := p) (s := (scale * begin, scale * (begin + x), scale * life)) pv2 hv2 t upd_same
      · intro s m
        rcases List.mem_append.mp m with z | z
        · exact g s z
        · rw [List.mem_singleton.mp z]
          refine ⟨Int.mul_nonneg (by omega) b0, Int.mul_le_mul_of_nonneg_left (by omega) (by omega), Int.mul_nonneg (by omega) l0⟩
      · intro s m
        rcases List.mem_append.mp m with z | z
        · exact sm s z
        · rw [List.mem_singleton.mp z]
          have w1 : scale * begin ≤ 10000000000 * 100 := Int.mul_le_mul (by omega) (by omega) b0 (by omega)
          have w2 : scale * (begin + x) ≤ 10000000000 * 200 := Int.mul_le_mul (by omega) (by omega) (by omega) (by omega)
          have w3 : scale * life ≤ 10000000000 * 100 := Int.mul_le_mul (by omega) (by omega) l0 (by omega)
          exact ⟨by show scale * begin ≤ 10 ^ 15; omega, by show scale * (begin + x) ≤ 10 ^ 15; omega, by show scale * life ≤ 10 ^ 15; omega⟩
    · rintro σ G ⟨⟨o5, o6, rfl⟩, B, S, ss, row, g, sm, ls⟩
      exact ⟨_, rfl, q G D ss B (S.mono (by omega)) nD0 Dp row g sm (by omega)⟩
end
end OB
namespace OM
theorem fs_none {α : Type} {F : Nat → Option α} {n : Nat} (h : ∀ u, u < n → F u = none) : (List.range n).findSome? F = none := by
  rw [List.findSome?_eq_none_iff]
  intro u mu
  exact h u (List.mem_range.mp mu)
theorem fs_some {α : Type} {F : Nat → Option α} {r : α} {i : Nat} (h : ∀ u, u < i → F u = none) (e : F i = some r) : ∀ {n : Nat}, i < n → (List.range n).findSome? F = some r
  | n + 1, l => by
    rw [List.range_succ, List.findSome?_append]
    by_cases z : i = n
    · subst z
      rw [fs_none h, List.findSome?_singleton, e] <;> rfl
    · rw [fs_some h e (n := n) (by omega)] <;> rfl
end OM
namespace OB
open PySem PySem.Spec PyProof.Rows L2 LamX
abbrev sLFirst : Stmt := top 44
/-- what is told of the law's search -/
def OldL (H : Hp) (b : Addr) (res : Option (List Int)) (Q : VK) : Prop := (res = none → ∀ H', Same H H' → Q .non H') ∧ ∀ ns, res = some ns → ∀ H' D, Same H H' → (D = b ∨ H D = none) → H' D = some (.lst (ns.map V.int)) → Q (.ref D) H'
def spLFirst (d : Nat) : Sp := fun vs H Q _ => ∃ (a b : Addr) (ss : List S3) (ns : List Int) (many marks : Nat), vs = [.ref a, .int (many : Nat), .int (marks : Nat), .ref b] ∧ Row H a ss ∧ H b = some (.lst (ns.map V.int)) ∧ Good ss ∧ OM.ValidW ss marks ns ∧ ns.length ≤ ss.length ∧ ss.length < ns.length + d ∧ ss.length ≤ 100 ∧ many ≤ 1000 ∧ OldL H b (OM.firstL ss marks many (ss.length - ns.length) ns) Q
section
variable {P : Program} {w : World} {K : PySem.W.Frag} {mg : Str → Option Value} {base : Heap}
theorem scLFirst : FnScope ["stays", "many", "marks", "given", "at", "number", "found"] ["stays", "many", "marks", "given"] (defScope sLFirst) := ⟨rfl, rfl, rfl, by decide +kernel, rfl, by decide +kernel, by decide +kernel⟩
theorem ok_lfirstS {f fL : Addr} {fd fdL : FuncData} {d : Nat} (F : Fun K "_law_first" "_law_first" sLFirst f fd) (gF : mg "_law_first" = some (.ref f)) (T : TxtC mg) (rg : mg "range" = none)
    (GL : FnOk P w K mg base CX0 2 fL fdL ["stays", "marks", "given", "at", "number"] spLets) (gL : mg "_law_lets" = some (.ref fL)) (kL : PySem.W.keepIn K (.ref fL) = true) (bL : Binds K fdL ["stays", "marks", "given", "at", "number"] [])
    (G : FnOk P w K mg base CX0 (d + 2) f fd ["stays", "many", "marks", "given"] (spLFirst d)) (bF : Binds K fd ["stays", "many", "marks", "given"] []) : FnOk P w K mg base CX0 (d + 3) f fd ["stays", "many", "marks", "given"] (spLFirst (d + 1)) := by
  refine F.ok scLFirst (fun vs H Q E h => ?_) (fun cdv A outer s H vs Q E hr h => ?_)
  · obtain ⟨a, b, ss, ns, n, m, rfl, _⟩ := h
    rfl
  · obtain ⟨a, b, ss, ns, many, marks, rfl, row, hb, g, va, ln, ld, hl, hm, q1, q2⟩ := h
    have nd := scLFirst.nd
    have hr2 := hr.mono (show 2 ≤ d + 2 by omega)
    refine ⟨_, pss_cons (ps_set (i := 4) nd rfl (Or.inl rfl) (pe_callB call_len_seq (by rfl) T.len PySem.boot_len (pa_cons (pv 3) pa_nil)))
      (pss_cons (ps_if (pt_cmpR op_eq (pv 4) (pe_callB call_len_seq (by rfl) T.len PySem.boot_len (pa_cons (pv 0) pa_nil)) (nomark _)) (pss_one (ps_ret (pv 3))) pss_nil)
      (pss_cons (ps_for PassesOwn.never rfl (pi_range1 (by rfl) rg (pa_cons (pv 1) pa_nil)) (pg_name (i := 5) nd rfl (Or.inl rfl))
        (pss_one (ps_if (pt_val (pe_call GL hr2 (by rfl) gL kL bL .nil pass0 (pa_cons (pv 0) (pa_cons (pv 2) (pa_cons (pv 3) (pa_cons (pv 4) (pa_cons (pv 5) pa_nil)))))))
          (pss_cons (ps_set (i := 6) nd rfl (Or.inl rfl) (pe_call G hr (by rfl) gF F.kp bF .nil pass0 (pa_cons (pv 0) (pa_cons (pv 1) (pa_cons (pv 2) (pa_cons (pe_op op_cat (pv 3) (pe_lst (pa_cons (pv 5) pa_nil))) pa_nil))))))
          (pss_one (ps_if (pt_cmpR op_notN (pv 6) pe_non (nomark _)) (pss_one (ps_ret (pv 6))) pss_nil))) pss_nil)))
      (pss_one (ps_ret pe_non)))), ?_⟩
    obtain ⟨us, hu, pu⟩ := id row
    have lu := pu.length
    refine ⟨_, rfl, b, _, rfl, .inl (SqL.of hb), ?_⟩
    refine ⟨_, rfl, _, rfl, a, us, rfl, .inl (SqL.of hu), rfl, _, rfl, ?_⟩
    rw [List.length_map, lu]
    refine ite2 (fun h => ?_) (fun h => ?_)
    · have e : ns.length = ss.length := Int.ofNat.inj (V.int.inj (of_decide_eq_true h))
      refine ⟨_, rfl, q2 ns ?_ H b (Same.refl _) (.inl rfl) hb⟩
      rw [e, Nat.sub_self] <;> rfl
    · have lt : ns.length < ss.length := by
        refine Nat.lt_of_le_of_ne ln fun e => h (decide_eq_true ?_)
        rw [e]
      obtain ⟨r, hr0⟩ : ∃ r, ss.length - ns.length = r + 1 := ⟨ss.length - ns.length - 1, by omega⟩
      have hr1 : ss.length - (ns.length + 1) = r := by omega
      rw [hr0] at q1 q2
      refine ⟨_, rfl, ((many : Nat) : Int), rfl, by omega, by omega, ?_⟩
      rw [Int.toNat_natCast]
      refine for_it walk_range (fun i σ G => (∃ o5 o6 : Option V, σ = [some (.ref a), some (.int ((many : Nat) : Int)), some (.int ((marks : Nat) : Int)), some (.ref b), some (.int ((ns.length : Nat) : Int)), o5, o6]) ∧ Same H G ∧ ∀ u, u < i → (if OM.stepB ss marks ns ((u : Nat) : Int) = true then OM.firstL ss marks many r (ns ++ [((u : Nat) : Int)]) else none) = none)
        ⟨⟨_, _, rfl⟩, Same.refl _, fun j h1 => by omega⟩ (fun i σ G _ z => trivial) (fun i x σ G G' hi z y => ?_) (fun σ G z => ?_)
      · obtain ⟨⟨o5, o6, rfl⟩, eG, no⟩ := z
        obtain ⟨rfl, rfl⟩ := y
        have ex : (fun i : Nat => V.int (0 + ((i : Nat) : Int))) i = V.int ((i : Nat) : Int) := congrArg V.int (by omega)
        rw [ex]
        refine ⟨_, rfl, _, rfl, _, rfl, _, rfl, _, rfl, a, b, ss, ns, ns.length, marks, (i : Nat), rfl, row.same eG, eG _ _ hb, Nat.le_refl _, lt, by omega, fun H3 e3 => ⟨_, rfl, ?_⟩⟩
        rw [List.take_length, OM.step_lets (goodL g) (by omega) va lt]
        have eG3 := eG.trans e3
        cases hst : OM.stepB ss marks ns ((i : Nat) : Int) with
        | false =>
          refine iteF ⟨⟨_, _, rfl⟩, eG3, fun u hu2 => ?_⟩
          by_cases z : u = i
          · rw [z, if_neg (by rw [hst]; exact Bool.false_ne_true)]
          · exact no u (by omega)
        | true =>
        have lenA : (ns ++ [((i : Nat) : Int)]).length = ns.length + 1 := by rw [List.length_append, List.length_singleton]
        refine iteT ?_
        refine ⟨_, rfl, _, rfl, _, rfl, _, rfl, _, rfl, by show 1 ≤ sizeLine; decide, fun Z nZ => ?_⟩
        refine ⟨b, Z, _, _, rfl, rfl, Same.new nZ _ _ (eG3 _ _ hb), upd_same, by rw [sizeLine_eq, List.length_map, List.length_singleton]; omega, fun B nB => ?_⟩
        have eB := (Same.new nZ).trans (Same.new (u := .lst (ns.map V.int ++ [V.int ((i : Nat) : Int)])) nB)
        have nB0 : H B = none := eG3.free ((Same.new nZ).free nB)
        have gB : (upd (upd H3 Z (.lst [V.int ((i : Nat) : Int)])) B (.lst (ns.map V.int ++ [V.int ((i : Nat) : Int)]))) B = some (.lst ((ns ++ [((i : Nat) : Int)]).map V.int)) := by rw [upd_same, List.map_append] <;> rfl
        have e4 := eG3.trans eB
        have hF : (if OM.stepB ss marks ns ((i : Nat) : Int) = true then OM.firstL ss marks many r (ns ++ [((i : Nat) : Int)]) else none) = OM.firstL ss marks many r (ns ++ [((i : Nat) : Int)]) := if_pos hst
        refine ⟨a, B, ss, ns ++ [((i : Nat) : Int)], many, marks, rfl, row.same e4, gB, g, .snoc va hst, by omega, by omega, hl, hm, fun hn H5 e5 => ?_, fun rs hn H5 D e5 hD gD => ?_⟩
        · rw [lenA, hr1] at hn
          refine ⟨_, rfl, rfl, _, rfl, iteF ?_⟩
          refine ⟨⟨_, _, rfl⟩, e4.trans e5, fun u hu2 => ?_⟩
          by_cases z : u = i
          · rw [z, hF, hn]
          · exact no u (by omega)
        · rw [lenA, hr1] at hn
          refine ⟨_, rfl, rfl, _, rfl, iteT ?_⟩
          refine ⟨_, rfl, q2 rs ?_ H5 D (e4.trans e5) (.inr ?_) gD⟩
          · exact OM.fs_some no (hF.trans hn) hi
          · rcases hD with rfl | hD
            · exact nB0
            · exact e4.free hD
      · obtain ⟨⟨o5, o6, rfl⟩, eG, no⟩ := z
        exact q1 (OM.fs_none no) _ eG
theorem ok_lfirst {f fL : Addr} {fd fdL : FuncData} (F : Fun K "_law_first" "_law_first" sLFirst f fd) (gF : mg "_law_first" = some (.ref f)) (T : TxtC mg) (rg : mg "range" = none)
    (GL : FnOk P w K mg base CX0 2 fL fdL ["stays", "marks", "given", "at", "number"] spLets) (gL : mg "_law_lets" = some (.ref fL)) (kL : PySem.W.keepIn K (.ref fL) = true) (bL : Binds K fdL ["stays", "marks", "given", "at", "number"] [])
    (bF : Binds K fd ["stays", "many", "marks", "given"] []) : ∀ d, FnOk P w K mg base CX0 (d + 2) f fd ["stays", "many", "marks", "given"] (spLFirst d)
  | 0 => F.ok scLFirst (fun vs H Q E h => by
      obtain ⟨_, _, _, _, _, _, _, _, _, _, _, l1, l2, _⟩ := h
      exact absurd l2 (by omega)) (fun cdv A outer s H vs Q E hr h => by
      obtain ⟨_, _, _, _, _, _, _, _, _, _, _, l1, l2, _⟩ := h
      exact absurd l2 (by omega))
  | d + 1 => ok_lfirstS F gF T rg GL gL kL bL (ok_lfirst F gF T rg GL gL kL bL bF d) bF
end
end OB
namespace OB
open PySem PySem.Spec PyProof.Rows L2 LamX
abbrev sLIM : Stmt := top 45
def Nim : List Str := ["stays", "many", "marks", "thing", "one", "at"]
theorem call_list_ofK {X : Cx} {K : PySem.W.Frag} (h : X.K = K) : CallR X (.type "list") (fun xs H Q => ∃ p ys, xs = [.ref p] ∧ (SqL K H p ys ∨ SqT K H p ys) ∧ ∀ l, H l = none → Q (.ref l) (upd H l (.lst ys))) := by
  subst h
  exact call_list_of
/-- whether each gets its number beside those ahead of it -/
def eachB (ss : List S3) (ns : List Int) (marks : Int) : List Bool := (List.range ss.length).map fun k => OM.letsB (OM.lotW ss (ns.take k) ((ns[k]?).getD 0)) (OM.sAt ss k) marks
theorem each_all {ss : List S3} {ns : List Int} {marks : Int} (g : Good ss) (m0 : 0 ≤ marks) (l : ns.length = ss.length) : (eachB ss ns marks).all id = lotsB ss ns marks := by
  rw [Bool.eq_iff_iff, lots_iff m0]
  have e1 : (eachB ss ns marks).all id = true ↔ ∀ k x, ns[k]? = some x → OM.letsB (OM.lotW ss (ns.take k) x) (OM.sAt ss k) marks = true := by
    unfold eachB
    rw [List.all_map, List.all_eq_true]
    constructor
    · intro h k x hk
      have hl : k < ns.length := (List.getElem?_eq_some_iff.mp hk).1
      have := h k (List.mem_range.mpr (by omega))
      simp only [Function.comp, id, hk, Option.getD_some] at this
      exact this
    · intro h k mk
      have hl : k < ns.length := by
        have := List.mem_range.mp mk
        omega
      have := h k ns[k] (List.getElem?_eq_getElem hl)
      simp only [Function.comp, id, List.getElem?_eq_getElem hl, Option.getD_some]
      exact this
  rw [e1, OM.law_valid (goodL g) m0 (by omega)]
  constructor
  · intro v u
    exact v.lot m0 (by omega) u
  · intro h
    exact OM.valid_of_lots (by omega) h
def spLIM (K : PySem.W.Frag) : Sp := fun vs H Q _ => ∃ (a : Addr) (ss : List S3) (m : Int) (marks : Nat) (v : V) (r : Option (List V)), vs = [.ref a, .int m, .int (marks : Nat), v] ∧ Row H a ss ∧ Good ss ∧ ss.length ≤ 900 ∧ Tells K H v r ∧ ∀ H', Same H H' → Q (.bl (isMG ss m marks r)) H'
section
variable {P : Program} {w : World} {K : PySem.W.Frag} {mg : Str → Option Value} {base : Heap}
theorem scLIM : FnScope Nim ["stays", "many", "marks", "thing"] (defScope sLIM) := ⟨rfl, rfl, rfl, by decide +kernel, rfl, by decide +kernel, by decide +kernel⟩
theorem ok_lim {f fL : Addr} {fd fdL : FuncData} (F : Fun K "_law_is_given" "_law_is_given" sLIM f fd) (T : TxtC mg) (rg : mg "range" = none)
    (GL : FnOk P w K mg base CX0 2 fL fdL ["stays", "marks", "given", "at", "number"] spLets) (gL : mg "_law_lets" = some (.ref fL)) (kL : PySem.W.keepIn K (.ref fL) = true) (bL : Binds K fdL ["stays", "marks", "given", "at", "number"] []) : FnOk P w K mg base CX0 3 f fd ["stays", "many", "marks", "thing"] (spLIM K) := by
  refine F.ok scLIM (fun vs H Q E h => ?_) (fun cdv A outer s H vs Q E hr h => ?_)
  · obtain ⟨a, ss, m, mk, v, r, rfl, _⟩ := h
    rfl
  · obtain ⟨a, ss, m, marks, v, r, rfl, row, g, hlen, ht, q⟩ := h
    have nd := scLIM.nd
    refine ⟨_, pss_cons (ps_if (PW.pt (pw_or (pt_not (pt_val (pe_callB call_isAT (by rfl) T.isi bootIsi (pa_cons (pv 3) (pa_cons (pe_tup (pa_cons (pe_bltn (v := .ty "list") (u := .type "list") (by rfl) T.list bList rfl) (pa_cons (pe_bltn (v := .ty "tuple") (u := .type "tuple") (by rfl) T.tuple bTuple rfl) pa_nil))) pa_nil)))))
          (pw_or1 (pt_cmpR op_ne (pe_callB call_len_seq (by rfl) T.len PySem.boot_len (pa_cons (pv 3) pa_nil)) (pe_callB call_len_seq (by rfl) T.len PySem.boot_len (pa_cons (pv 0) pa_nil)) (nomark _)))))
        (pss_one (ps_ret pe_bl)) pss_nil)
      (pss_cons (ps_if (pt_not (pt_val (pe_callB (cr_all rfl) (by rfl) T.all (by decide +kernel) (pa_cons (pe_lc (own := [("one", 4)]) (g := gName 4) (tt := tYes) rfl nd (pi_X (pv 3)) (blkOk_by (N := Nim) (sc := defScope sLIM) (by decide +kernel))
          (fun _ _ _ _ _ => pg_name (i := 4) nd rfl (Or.inl rfl)) (fun _ _ _ _ _ => pts_nil) (fun _ _ _ _ _ => pe_and (pe_callB (call_isAK (K := K) rfl) (by rfl) T.isi bootIsi (pa_cons (pv 4) (pa_cons (pe_bltn (v := .ty "int") (u := .type "int") (by rfl) T.int bInt rfl) pa_nil)))
            (pe_and (pe_not (pe_callB (call_isAK (K := K) rfl) (by rfl) T.isi bootIsi (pa_cons (pv 4) (pa_cons (pe_bltn (v := .ty "bool") (u := .type "bool") (by rfl) T.bool bBool rfl) pa_nil)))) (pe_one (pe_chain op_le op_lt pe_int (pv 4) (pv 1)))))) pa_nil))))
        (pss_one (ps_ret pe_bl)) pss_nil)
      (pss_one (ps_ret (pe_callB (cr_all rfl) (by rfl) T.all (by decide +kernel) (pa_cons (pe_lc (own := [("at", 5)]) (g := gName 5) (tt := tYes) rfl nd (pi_range1 (by rfl) rg (pa_cons (pe_callB call_len_seq (by rfl) T.len PySem.boot_len (pa_cons (pv 0) pa_nil)) pa_nil)) (blkOk_by (N := Nim) (sc := defScope sLIM) (by decide +kernel))
          (fun _ _ _ _ _ => pg_name (i := 5) nd rfl (Or.inl rfl)) (fun _ _ _ _ _ => pts_nil) (fun _ _ _ _ _ => pe_call GL hr (by rfl) gL kL bL .nil pass0 (pa_cons (pv 0) (pa_cons (pv 2) (pa_cons (pe_callTy (call_list_ofK (K := K) rfl) (by rfl) T.list bList (pa_cons (pv 3) pa_nil)) (pa_cons (pv 5) (pa_cons (pe_ix (ix_XK (K := K) rfl) (pv 3) (pv 5) (fun _ _ => rfl)) pa_nil))))))) pa_nil))))), ?_⟩
    obtain ⟨us, hu, pu⟩ := row
    have lu := pu.length
    refine ⟨_, rfl, by show 2 ≤ sizeLine; decide, fun tt ntt => ?_⟩
    have e1 : Same H (upd H tt (.tup [.ty "list", .ty "tuple"])) := Same.new ntt
    have gtt : (upd H tt (.tup [.ty "list", .ty "tuple"])) tt = some (.tup [.ty "list", .ty "tuple"]) := upd_same
    generalize upd H tt (.tup [.ty "list", .ty "tuple"]) = H1 at e1 gtt
    cases r with
    | none =>
      obtain ⟨k, h, hf⟩ := ht
      obtain ⟨tu, U⟩ := (h.same e1).says
      refine ⟨_, tt, _, tu, _, _, rfl, gtt, .cons (.ty _) (.cons (.ty _) .nil), U.ty, U.seq, _, rfl, ?_⟩
      have hf : (k.isLst || k.isTup) = false := hf
      rw [hf]
      exact iteT (q _ e1)
    | some xs =>
      obtain ⟨b, tp, rfl, h, ax, hl⟩ := ht
      obtain ⟨k, av, hf⟩ : ∃ k, Any K H1 (.ref b) k ∧ (k.isLst || k.isTup) = true := by
        cases tp with
        | true => exact ⟨.tup, .tup (e1 _ _ h), rfl⟩
        | false => exact ⟨.lst, .lst (e1 _ _ h), rfl⟩
      obtain ⟨tu, U⟩ := av.says
      refine ⟨_, tt, _, tu, _, _, rfl, gtt, .cons (.ty _) (.cons (.ty _) .nil), U.ty, U.seq, _, rfl, ?_⟩
      rw [hf]
      have h1 := e1 _ _ h
      have sx : SqX tp K H1 b xs := SqX.at h1
      refine iteF ⟨_, rfl, b, xs, rfl, sx.or, _, rfl, a, us, rfl, .inl (SqL.of (e1 _ _ hu)), rfl, _, rfl, ?_⟩
      refine ite2 (fun hn => ?_) (fun hn => ?_)
      · have h3 : ¬ xs.length = ss.length := fun z => by
          rw [z, lu] at hn
          simp at hn
        have e : numsOf ss.length m (some xs) = none := if_neg fun z => h3 z.1
        have q := q _ e1
        unfold isMG at q
        rw [e] at q
        exact q
      · have h3 : xs.length = ss.length := by
          by_cases z : xs.length = us.length
          · omega
          · exfalso
            apply hn
            have ne : decide (V.int (xs.length : Nat) = V.int (us.length : Nat)) = false := decide_eq_false fun y => z (by
              have := V.int.inj y
              omega)
            rw [ne] <;> rfl
        refine ⟨_, rfl, tp, b, xs, rfl, sx, fun D nD => ?_⟩
        have lm : ((xs.map (numB m)).map V.bl).length = xs.length := by simp
        have nA : ∀ {i : Nat} {G : Hp}, AccP D H1 (mapTo ((xs.map (numB m)).map V.bl)) i G → SqX tp K G b xs := fun z => SqX.same sx (acc_same z (Same.refl H1) nD)
        refine lc_it walk_X (AccP D H1 (mapTo ((xs.map (numB m)).map V.bl))) (acc_start rfl) (fun i G _ z => nA z) (fun i x G G' hi z y => ?_) (fun G z => ?_)
        · obtain ⟨rfl, hx⟩ := y
          refine ⟨rfl, ?_⟩
          dsimp only [tYes]
          rw [if_pos rfl]
          obtain ⟨_, kx, bx⟩ := ax x (List.mem_of_getElem? hx)
          have bx := (bx.same e1).same (acc_same z (Same.refl H1) nD)
          obtain ⟨tx, S⟩ := bx.says
          have fin := fun (w : V) (hw : w = V.bl (numB m x)) => acc_in (y := w) z (Same.refl _) (mapTo_len (by rw [lm, sizeLine_eq]; omega)) (mapTo_succ (by rw [List.getElem?_map, List.getElem?_map, hx, hw] <;> rfl))
          refine ⟨_, rfl, x, .ty "int", tx, .type "int", _, rfl, .ty _, S.ty, S.int, _, rfl, ?_⟩
          cases bx with
          | int i =>
            refine iteT ⟨_, rfl, .int i, .ty "bool", tx, .type "bool", _, rfl, .ty _, S.ty, S.bool, _, rfl, _, rfl, iteT ⟨_, rfl, 0, i, rfl, rfl, _, rfl, ?_⟩⟩
            refine ite2 (fun g => ⟨_, rfl, i, m, rfl, rfl, fin _ ?_⟩) (fun g => fin _ ?_)
            · show _ = V.bl (decide (0 ≤ i) && decide (i < m))
              rw [g] <;> rfl
            · have g : decide (0 ≤ i) = false := by simpa using g
              show _ = V.bl (decide (0 ≤ i) && decide (i < m))
              rw [g] <;> rfl
          | bl bb => exact iteT ⟨_, rfl, .bl bb, .ty "bool", tx, .type "bool", _, rfl, .ty _, S.ty, S.bool, _, rfl, _, rfl, iteF (fin _ rfl)⟩
          | _ => exact iteF (fin _ rfl)
        · rw [← lm] at z
          have gD : G D = some (.lst ((xs.map (numB m)).map V.bl)) := by rw [z.2, mapTo_all]
          have e2 : Same H G := acc_same z e1 nD
          have sx2 := nA z
          clear z
          refine ⟨D, xs.map (numB m), rfl, SqL.of gD, _, rfl, ?_⟩
          have al : (xs.map (numB m)).all id = xs.all (numB m) := by rw [List.all_map] <;> rfl
          rw [al]
          cases hall : xs.all (numB m) with
          | false =>
            have e : numsOf ss.length m (some xs) = none := if_neg fun z => by rw [hall] at z; cases z.2
            have q := q _ e2
            unfold isMG at q
            rw [e] at q
            exact iteT q
          | true =>
            have e : numsOf ss.length m (some xs) = some (xs.map intOf) := if_pos ⟨h3, hall⟩
            have ei := (nums_some e).2.2
            injection ei with ei
            have q5 := fun G' (eG : Same G G') => q _ (e2.trans eG)
            unfold isMG at q5
            rw [e] at q5
            clear q
            generalize xs.map intOf = ns at ei q5
            subst ei
            rw [List.length_map] at h3
            have huG := e2 _ _ hu
            refine iteF ⟨_, rfl, a, us, rfl, .inl (SqL.of huG), (us.length : Nat), rfl, by omega, by omega, fun W nW => ?_⟩
            rw [Int.toNat_natCast, lu]
            have le : ((eachB ss ns marks).map V.bl).length = ss.length := by unfold eachB; simp
            refine lc_it walk_range (AccP W G (mapTo ((eachB ss ns marks).map V.bl))) (acc_start rfl) (fun i G _ z => trivial) (fun i x G2 G3 hi z y => ?_) (fun G2 z => ?_)
            · obtain ⟨rfl, rfl⟩ := y
              have ex : (fun i : Nat => V.int (0 + ((i : Nat) : Int))) i = V.int ((i : Nat) : Int) := congrArg V.int (by omega)
              rw [ex]
              have ew := acc_same z (Same.refl G) nW
              have hk : ns[i]? = some ns[i] := List.getElem?_eq_getElem (by omega)
              generalize ns[i] = x at hk
              have hk2 : (ns.map V.int)[i]? = some (.int x) := by rw [List.getElem?_map, hk] <;> rfl
              refine ⟨rfl, ?_⟩
              dsimp only [tYes]
              rw [if_pos rfl]
              have sxw := sx2.same ew
              refine ⟨_, rfl, _, rfl, _, rfl, b, _, rfl, sxw.or, fun L nL => ?_⟩
              have eL := Same.new (u := .lst (ns.map V.int)) nL
              refine ⟨_, rfl, _, rfl, _, rfl, tp, b, _, (i : Nat), .int x, rfl, rfl, sxw.same eL, atI_nat hk2, a, L, ss, ns, i, marks, x, rfl, ⟨us, eL _ _ (ew _ _ huG), Paired.imp (fun v s h => h.same ((e2.trans ew).trans eL)) pu⟩, upd_same, by omega, by omega, hlen, fun G4 e4 => ?_⟩
              refine acc_in z (eL.trans e4) (mapTo_len (by rw [le, sizeLine_eq]; omega)) (mapTo_succ ?_)
              unfold eachB
              rw [List.getElem?_map, List.getElem?_map, List.getElem?_range hi]
              show some (V.bl (OM.letsB (OM.lotW ss (ns.take i) ((ns[i]?).getD 0)) (OM.sAt ss i) marks)) = _
              rw [hk] <;> rfl
            rw [← le] at z
            have gW : G2 W = some (.lst ((eachB ss ns marks).map V.bl)) := by rw [z.2, mapTo_all]
            refine ⟨W, _, rfl, SqL.of gW, ?_⟩
            rw [each_all g (by omega) h3]
            exact q5 _ (acc_same z (Same.refl G) nW)
end
end OB
namespace OB
open PySem PySem.Spec PyProof.Rows L2
abbrev sThings : Stmt := top 46
def Nt : List Str := ["stream", "stays", "many", "given", "found", "k", "bent", "number"]
def spThings (K : PySem.W.Frag) : Sp := fun vs H Q _ => ∃ (p a : Addr) (m : Int) (gv : V) (us : List V) (n : Nat), vs = [.ref p, .ref a, .int m, gv] ∧ Src n H p ∧ n < 900000000 ∧ H a = some (.lst us) ∧ a ≠ p ∧ us.length ≤ 60 ∧ GivenV H gv us.length ∧ gv ≠ .ref p ∧
  ∀ H' R xs, ButS p H H' → Src (n + 8) H' p → H R = none → R ≠ p → H' R = some (.lst xs) → (∀ x ∈ xs, x ≠ .ref p ∧ ∃ rt, Tells K H' x rt) → xs.length ≤ 20 → Q (.ref R) H'
section
variable {P : Program} {w : World} {K : PySem.W.Frag} {mg : Str → Option Value} {base : Heap}
theorem scThings : FnScope Nt ["stream", "stays", "many", "given"] (defScope sThings) := ⟨rfl, rfl, rfl, by decide +kernel, rfl, by decide +kernel, by decide +kernel⟩
theorem ok_things {f fD fP : Addr} {fd fdD fdP : FuncData} (F : Fun K "_law_things" "_law_things" sThings f fd) (T : TxtC mg) (rg : mg "range" = none)
    (GD : FnOk P w K mg base CX0 1 fD fdD ["stream", "many"] spDraw) (gD : mg "_law_draw" = some (.ref fD)) (kD : PySem.W.keepIn K (.ref fD) = true) (bD : Binds K fdD ["stream", "many"] [])
    (GP : FnOk P w K mg base CX0 2 fP fdP ["stream", "things"] (spPick K)) (gP : mg "_law_pick" = some (.ref fP)) (kP : PySem.W.keepIn K (.ref fP) = true) (bP : Binds K fdP ["stream", "things"] []) : FnOk P w K mg base CX0 3 f fd ["stream", "stays", "many", "given"] (spThings K) := by
  refine F.ok scThings (fun vs H Q E h => ?_) (fun cdv A outer s H vs Q E hr h => ?_)
  · obtain ⟨p, a, m, gv, us, n, rfl, _⟩ := h
    rfl
  · obtain ⟨p, a, m, gv, us, n, rfl, S, hn, hu, ap, hl, hg, gp, q⟩ := h
    have nd := scThings.nd
    have hr1 := hr.mono (show 1 ≤ 2 by decide)
    refine ⟨_, pss_cons (ps_set (i := 4) nd rfl (Or.inl rfl) (pe_lst (pa_cons pe_non (pa_cons pe_int (pa_cons pe_str (pa_cons pe_dnewK
          (pa_cons (pe_op op_rep (pe_lst (pa_cons pe_int pa_nil)) (pe_callB call_len_seq (by rfl) T.len PySem.boot_len (pa_cons (pv 1) pa_nil)))
          (pa_cons (pe_op op_rep (pe_lst (pa_cons (pv 2) pa_nil)) (pe_callB call_len_seq (by rfl) T.len PySem.boot_len (pa_cons (pv 1) pa_nil)))
          (pa_cons (pe_op op_rep (pe_lst (pa_cons pe_int pa_nil)) (pe_op op_add (pe_callB call_len_seq (by rfl) T.len PySem.boot_len (pa_cons (pv 1) pa_nil)) pe_int))
          (pa_cons (pe_op op_rep (pe_lst (pa_cons pe_bl pa_nil)) (pe_callB call_len_seq (by rfl) T.len PySem.boot_len (pa_cons (pv 1) pa_nil))) pa_nil))))))))))
      (pss_cons (ps_if (pt_cmpR op_no (pv 3) pe_non (nomark _))
        (pss_cons (ps_expr (pe_bm PySem.F.plainAttrs_list PySem.F.slot_list_extend PySem.F.type_list_extend mt_extend (pv 4) (pa_cons (pe_lst (pa_cons (pv 3) (pa_cons (pe_callTy call_tuple_of (by rfl) T.tuple bTuple (pa_cons (pv 3) pa_nil))
            (pa_cons (pe_lc (own := [("number", 7)]) (g := gName 7) (tt := tYes) rfl nd (pi_list (pv 3)) (blkOk_by (N := Nt) (sc := defScope sThings) (by decide +kernel))
            (fun _ _ _ _ _ => pg_name (i := 7) nd rfl (Or.inl rfl)) (fun _ _ _ _ _ => pts_nil) (fun _ _ _ _ _ => pe_op op_sub (pe_op op_sub (pv 2) pe_int) (pv 7))) (pa_cons (pe_slice sl_list (pv 3) po_none (po_some (pe_un un_neg pe_int))) (pa_cons (pe_op op_cat (pv 3) (pe_lst (pa_cons pe_int pa_nil))) pa_nil)))))) pa_nil)))
        (pss_one (ps_for PassesOwn.never rfl (pi_range1 (by rfl) rg (pa_cons pe_int pa_nil)) (pg_name (i := 5) nd rfl (Or.inl rfl))
          (pss_cons (ps_set (i := 6) nd rfl (Or.inl rfl) (pe_callTy call_list_of (by rfl) T.list bList (pa_cons (pv 3) pa_nil)))
          (pss_cons (ps_if (pt_cmpR (op_neD hr.units) (pv 6) (pe_lst pa_nil) (nomark _))
              (pss_one (ps_asg (pe_call GP hr (by rfl) gP kP bP .nil pass0 (pa_cons (pv 0) (pa_cons (pe_lst (pa_cons pe_int (pa_cons pe_int (pa_cons (pe_op op_sub (pv 2) pe_int) (pa_cons (pv 2) (pa_cons (pe_un un_neg pe_int) (pa_cons pe_str (pa_cons pe_non pa_nil)))))))) pa_nil)))
                (pg_sub (pv 6) (pe_call GD hr1 (by rfl) gD kD bD .nil pass0 (pa_cons (pv 0) (pa_cons (pe_callB call_len_seq (by rfl) T.len PySem.boot_len (pa_cons (pv 6) pa_nil)) pa_nil))) set_list))) pss_nil)
          (pss_one (ps_expr (pe_bm PySem.F.plainAttrs_list PySem.F.slot_list_append PySem.F.type_list_append mt_append (pv 4) (pa_cons (pv 6) pa_nil))))))))) pss_nil)
      (pss_one (ps_ret (pv 4)))), ?_⟩
    intro Z nZ
    have e1 : Same H (upd H Z (.dK [])) := Same.new nZ
    have gZ : (upd H Z (.dK [])) Z = some (.dK []) := upd_same
    show tCons _ _ _ (upd H Z (.dK [])) _
    generalize upd H Z (.dK []) = H1 at e1 gZ ⊢
    refine rep_len (K := K) (x := .int 0) rfl (e1 _ _ hu) (by omega) (fun Q' h => h) fun H2 D1 e2 n1 g1 => ?_
    refine rep_len (K := K) (x := .int m) rfl ((e1.trans e2) _ _ hu) (by omega) (fun Q' h => ⟨_, rfl, h⟩) fun H3 D2 e3 n2 g2 => ?_
    refine rep_len1 (K := K) (x := .int 0) rfl (((e1.trans e2).trans e3) _ _ hu) (by omega) (fun Q' h => h) fun H4 D3 e4 n3 g3 => ?_
    refine rep_len (K := K) (x := .bl true) rfl ((((e1.trans e2).trans e3).trans e4) _ _ hu) (by omega) (fun Q' h => h) fun H5 D4 e5 n4 g4 => ?_
    have e15 : Same H H5 := (((e1.trans e2).trans e3).trans e4).trans e5
    refine ⟨by show 8 ≤ sizeLine; decide, fun R nR => ?_⟩
    have gZ := ((((e2.trans e3).trans e4).trans e5)) _ _ gZ
    have g1 := ((e3.trans e4).trans e5) _ _ g1
    have g2 := (e4.trans e5) _ _ g2
    have g3 := e5 _ _ g3
    have nRH : H R = none := e15.free nR
    have at0 : ∀ D : Addr, H D = none → V.ref D ≠ .ref p := fun D nD z => S.ne nD (by injection z)
    have atR : ∀ (D : Addr) (o : HO), H5 D = some o → V.ref D ≠ .ref R := fun D o h z => by
      injection z with z
      rw [z, nR] at h
      cases h
    have all0 : ∀ x ∈ [V.non, .int 5, .str "ab", .ref Z, .ref D1, .ref D2, .ref D3, .ref D4], (x ≠ .ref p ∧ x ≠ .ref R) ∧ ∃ rt, Tells K H5 x rt := fun x mx => by
      simp only [List.mem_cons, List.not_mem_nil, or_false] at mx
      rcases mx with rfl | rfl | rfl | rfl | rfl | rfl | rfl | rfl
      · exact ⟨⟨(by intro z; cases z), (by intro z; cases z)⟩, none, .non, .non, rfl⟩
      · exact ⟨⟨(by intro z; cases z), (by intro z; cases z)⟩, none, .int, .int 5, rfl⟩
      · exact ⟨⟨(by intro z; cases z), (by intro z; cases z)⟩, none, .str, .str (by decide), rfl⟩
      · exact ⟨⟨at0 _ nZ, atR _ _ gZ⟩, none, .dct, .dct gZ, rfl⟩
      · exact ⟨⟨at0 _ (e1.free n1), atR _ _ g1⟩, _, tells_rep g1 rfl ⟨_, .int 0⟩ (by omega)⟩
      · exact ⟨⟨at0 _ ((e1.trans e2).free n2), atR _ _ g2⟩, _, tells_rep g2 rfl ⟨_, .int m⟩ (by omega)⟩
      · exact ⟨⟨at0 _ (((e1.trans e2).trans e3).free n3), atR _ _ g3⟩, _, tells_rep g3 rfl ⟨_, .int 0⟩ (by omega)⟩
      · exact ⟨⟨at0 _ ((((e1.trans e2).trans e3).trans e4).free n4), atR _ _ g4⟩, _, tells_rep g4 rfl ⟨_, .bl true⟩ (by omega)⟩
    have e6 : Same H5 (upd H5 R (.lst [V.non, .int 5, .str "ab", .ref Z, .ref D1, .ref D2, .ref D3, .ref D4])) := Same.new nR
    have gR : (upd H5 R (.lst [V.non, .int 5, .str "ab", .ref Z, .ref D1, .ref D2, .ref D3, .ref D4])) R = some (.lst [V.non, .int 5, .str "ab", .ref Z, .ref D1, .ref D2, .ref D3, .ref D4]) := upd_same
    show tSeq _ _ _ _ (upd H5 R (.lst [V.non, .int 5, .str "ab", .ref Z, .ref D1, .ref D2, .ref D3, .ref D4]))
    generalize upd H5 R (.lst [V.non, .int 5, .str "ab", .ref Z, .ref D1, .ref D2, .ref D3, .ref D4]) = H6 at e6 gR ⊢
    generalize hx0 : [V.non, .int 5, .str "ab", .ref Z, .ref D1, .ref D2, .ref D3, .ref D4] = xs0 at all0 gR
    have l0 : xs0.length = 8 := by rw [← hx0] <;> rfl
    have all6 : ∀ x ∈ xs0, (x ≠ .ref p ∧ x ≠ .ref R) ∧ ∃ rt, Tells K H6 x rt := fun x mx => ⟨(all0 x mx).1, (all0 x mx).2.imp fun r z => z.same e6⟩
    have e16 : Same H H6 := e15.trans e6
    have Rp : R ≠ p := S.ne nRH
    rcases hg with rfl | ⟨D, ns, rfl, hD, ln⟩
    · refine ⟨_, rfl, rfl, _, rfl, iteF ⟨_, rfl, ?_⟩⟩
      exact q H6 R xs0 (ButS.same e16) ((S.same e16).mono (by omega)) nRH Rp gR (fun x mx => ⟨(all6 x mx).1.1, (all6 x mx).2⟩) (by omega)
    · have hD6 := e16 _ _ hD
      have gRh := gR
      refine ⟨_, rfl, rfl, _, rfl, iteT ⟨_, rfl, .inl ⟨rfl, _, SqL.of gR⟩, _, rfl, _, rfl, D, _, rfl, .inl ⟨SqL.of hD6, fun T1 nT1 => ?_⟩⟩⟩
      have e68 : Same H6 (upd H6 T1 (.tup (ns.map V.int))) := Same.new nT1
      have gT1 : (upd H6 T1 (.tup (ns.map V.int))) T1 = some (.tup (ns.map V.int)) := upd_same
      show tCons _ _ _ (upd H6 T1 (.tup (ns.map V.int))) _
      generalize upd H6 T1 (.tup (ns.map V.int)) = M8 at e68 gT1 ⊢
      have hM8 := e68 _ _ hD6
      refine ⟨_, rfl, D, rfl, ⟨_, SqL.of hM8⟩, fun F nF => ?_⟩
      have m1 : ((ns.map fun k => m - 1 - k).map V.int).length = (ns.map V.int).length := by simp
      refine lc_it (walk_list (xs := ns.map V.int)) (AccP F M8 (mapTo ((ns.map fun k => m - 1 - k).map V.int))) (acc_start rfl) (fun i G _ z => Same.seq (acc_same z (Same.refl M8) nF) (SqL.of hM8)) (fun i x G G' hi z y => ?_) (fun G z => ?_)
      · obtain ⟨rfl, hx⟩ := y
        rw [List.getElem?_map] at hx
        obtain ⟨k, hk, rfl⟩ := Option.map_eq_some_iff.mp hx
        refine ⟨rfl, ?_⟩
        dsimp only [tYes]
        rw [if_pos rfl]
        exact ⟨_, rfl, _, _, rfl, rfl, _, rfl, _, _, rfl, rfl, acc_in z (Same.refl _) (mapTo_len (by rw [m1, List.length_map, sizeLine_eq]; omega)) (mapTo_succ (by rw [List.getElem?_map, List.getElem?_map, hk] <;> rfl))⟩
      · rw [← m1] at z
        have gF : G F = some (.lst ((ns.map fun k => m - 1 - k).map V.int)) := by rw [z.2, mapTo_all]
        have e8G : Same M8 G := acc_same z (Same.refl M8) nF
        have e7 : Same H6 G := e68.trans e8G
        clear z
        have gR := e7 _ _ gR
        have gT1 := e8G _ _ gT1
        obtain ⟨G8, eG8⟩ : ∃ G8, G8 = G := ⟨G, rfl⟩
        have e8 : Same G G8 := by rw [eG8]; exact Same.refl G
        have gT1 : G8 T1 = some (.tup (ns.map V.int)) := by rw [eG8]; exact gT1
        rw [← eG8]
        have hD8 : G8 D = some (.lst (ns.map V.int)) := by rw [eG8]; exact e7 _ _ hD6
        refine ⟨_, rfl, ⟨_, rfl, _, rfl, D, ns.map V.int, rfl, SqL.of hD8, fun S1 nS1 => ?_⟩⟩
        generalize hcut : cutV (ns.map V.int) none (some (-1)) = cs
        have e9 : Same G8 (upd G8 S1 (.lst cs)) := Same.new nS1
        have gS1 : (upd G8 S1 (.lst cs)) S1 = some (.lst cs) := upd_same
        show tCons _ _ _ (upd G8 S1 (.lst cs)) _
        generalize upd G8 S1 (.lst cs) = G9 at e9 gS1 ⊢
        have hD9 := e9 _ _ hD8
        refine ⟨_, rfl, by show 1 ≤ sizeLine; decide, fun Y nY => ?_⟩
        have e10 : Same G9 (upd G9 Y (.lst [.int 0])) := Same.new nY
        have gY : (upd G9 Y (.lst [.int 0])) Y = some (.lst [.int 0]) := upd_same
        generalize upd G9 Y (.lst [.int 0]) = G10 at e10 gY
        refine ⟨D, Y, _, _, rfl, rfl, e10 _ _ hD9, gY, by rw [List.length_map, sizeLine_eq]; simp; omega, fun C nC => ?_⟩
        have e11 : Same G10 (upd G10 C (.lst (ns.map V.int ++ [.int 0]))) := Same.new nC
        have gC : (upd G10 C (.lst (ns.map V.int ++ [.int 0]))) C = some (.lst (ns.map V.int ++ [.int 0])) := upd_same
        generalize upd G10 C (.lst (ns.map V.int ++ [.int 0])) = G11 at e11 gC
        refine ⟨by show 5 ≤ sizeLine; decide, fun W nW => ?_⟩
        have e12 : Same G11 (upd G11 W (.lst [.ref D, .ref T1, .ref F, .ref S1, .ref C])) := Same.new nW
        have gW : (upd G11 W (.lst [.ref D, .ref T1, .ref F, .ref S1, .ref C])) W = some (.lst [.ref D, .ref T1, .ref F, .ref S1, .ref C]) := upd_same
        generalize upd G11 W (.lst [.ref D, .ref T1, .ref F, .ref S1, .ref C]) = G12 at e12 gW
        have e8_12 : Same G8 G12 := ((e9.trans e10).trans e11).trans e12
        have e7_12 : Same G G12 := e8.trans e8_12
        have e_12 : Same H G12 := (e16.trans e7).trans e7_12
        refine ⟨R, W, xs0, _, rfl, rfl, e7_12 _ _ gR, gW, by rw [l0, sizeLine_eq]; show 8 + 5 ≤ 16777216; decide, ?_⟩
        have gR12 := e7_12 _ _ gR
        have nu : ∀ (E : Addr) (o : HO), G12 E = some o → (∀ ys, o ≠ .lst ys) → V.ref E ≠ .ref R := fun E o h n z => by
          injection z with z
          rw [z, gR12] at h
          exact n _ (Option.some.inj h).symm
        have gR6 := e7_12 _ _ gR
        have neR : ∀ E : Addr, E ≠ R → V.ref E ≠ .ref R := fun E n z => n (by injection z)
        have five : ∀ x ∈ [V.ref D, .ref T1, .ref F, .ref S1, .ref C], (x ≠ .ref p ∧ x ≠ .ref R) ∧ ∃ rt, Tells K G12 x rt := fun x mx => by
          simp only [List.mem_cons, List.not_mem_nil, or_false] at mx
          have lj : ∀ E : Addr, G E = none → E ≠ R := fun E n z => by rw [z, gR] at n; cases n
          rcases mx with rfl | rfl | rfl | rfl | rfl
          · exact ⟨⟨gp, neR _ (ne_of_none hD nRH)⟩, _, tells_ints (tp := false) (e8_12 _ _ hD8) (by omega)⟩
          · exact ⟨⟨at0 _ (e16.free nT1), neR _ (fun z => by rw [z, gRh] at nT1; cases nT1)⟩, _, tells_ints (tp := true) (e8_12 _ _ gT1) (by omega)⟩
          · exact ⟨⟨at0 _ ((e16.trans e68).free nF), neR _ (fun z => by rw [z, e68 _ _ gRh] at nF; cases nF)⟩, _, tells_ints (tp := false) (e7_12 _ _ gF) (by rw [List.length_map]; omega)⟩
          · obtain ⟨js, ej, lj2⟩ := cut_ints ns
            rw [hcut] at ej
            rw [ej] at gS1
            exact ⟨⟨at0 _ (((e16.trans e7).trans e8).free nS1), neR _ (lj _ (e8.free nS1))⟩, _, tells_ints (tp := false) ((((e10.trans e11).trans e12)) _ _ gS1) (by omega)⟩
          · exact ⟨⟨at0 _ (((((e16.trans e7).trans e8).trans e9).trans e10).free nC), neR _ (lj _ (((e8.trans e9).trans e10).free nC))⟩, _, tells_ints (tp := false) (is := ns ++ [0]) (by rw [List.map_append]; exact e12 _ _ gC) (by rw [List.length_append]; simp; omega)⟩
        have all13 : ∀ x ∈ xs0 ++ [V.ref D, .ref T1, .ref F, .ref S1, .ref C], (x ≠ .ref p ∧ x ≠ .ref R) ∧ ∃ rt, Tells K (upd G12 R (.lst (xs0 ++ [V.ref D, .ref T1, .ref F, .ref S1, .ref C]))) x rt := fun x mx => by
          have z : (x ≠ .ref p ∧ x ≠ .ref R) ∧ ∃ rt, Tells K G12 x rt := by
            rcases List.mem_append.mp mx with y | y
            · exact ⟨(all6 x y).1, (all6 x y).2.imp fun r z => z.same (e7.trans e7_12)⟩
            · exact five x y
          exact ⟨z.1, z.2.imp fun r t => t.but gR12 (fun c o n h => by rw [upd_ne n]; exact h) z.1.2⟩
        have B13 : ∀ b o, b ≠ R → G12 b = some o → (upd G12 R (.lst (xs0 ++ [V.ref D, .ref T1, .ref F, .ref S1, .ref C]))) b = some o := fun b o n h => by rw [upd_ne n]; exact h
        have gR13 : (upd G12 R (.lst (xs0 ++ [V.ref D, .ref T1, .ref F, .ref S1, .ref C]))) R = some (.lst (xs0 ++ [V.ref D, .ref T1, .ref F, .ref S1, .ref C])) := upd_same
        have l13 : (xs0 ++ [V.ref D, .ref T1, .ref F, .ref S1, .ref C]).length = 13 := by rw [List.length_append, l0] <;> rfl
        have e13 : ∀ b o, H b = some o → (upd G12 R (.lst (xs0 ++ [V.ref D, .ref T1, .ref F, .ref S1, .ref C]))) b = some o := fun b o h => B13 b o (ne_of_none h nRH) (e_12 b o h)
        refine ⟨3, rfl, by decide, by decide, ?_⟩
        generalize upd G12 R (.lst (xs0 ++ [V.ref D, .ref T1, .ref F, .ref S1, .ref C])) = G13 at all13 B13 gR13 e13
        generalize xs0 ++ [V.ref D, .ref T1, .ref F, .ref S1, .ref C] = xs1 at all13 gR13 l13
        have hD13 := e13 _ _ hD
        have S13 : Src n G13 p := (show Src n G13 p from by
          obtain ⟨d, s, c, hp, r⟩ := S
          exact ⟨d, s, c, e13 _ _ hp, r⟩)
        clear eG8 e68 e8G hM8 B13 e_12 e7_12 e8_12 e12 e11 e10 e9 e8 e7 e16 e6 e15 e1 e2 e3 e4 e5 all6 gR12 gR6 gC gW gY gS1 gT1 gF hD6 hD8 hD9 gRh gZ g1 g2 g3 g4 n1 n2 n3 n4 nC nW nY nS1 nT1 nF five
        refine for_range (n := 3) (fun i σ G => (∃ o5 o6 : Option V, σ = [some (.ref p), some (.ref a), some (.int m), some (.ref D), some (.ref R), o5, o6, none]) ∧ ButS p H G ∧ Src (n + 2 * i) G p ∧ ∃ xs, G R = some (.lst xs) ∧ xs.length = 13 + i ∧ ∀ x ∈ xs, (x ≠ .ref p ∧ x ≠ .ref R) ∧ ∃ rt, Tells K G x rt)
          ⟨⟨_, _, rfl⟩, fun b o _ h => e13 b o h, S13, xs1, gR13, l13, all13⟩ ?_ ?_
        · rintro i σ G hi ⟨⟨o5, o6, rfl⟩, B, SG, xs, gR, lx, ax⟩
          have hDG := B _ _ (fun z => gp (by rw [z])) hD
          refine ⟨_, rfl, D, _, rfl, .inl (SqL.of hDG), fun L nL => ?_⟩
          have Lp : L ≠ p := SG.ne nL
          have LR : L ≠ R := fun z => by rw [z, gR] at nL; cases nL
          have eL : Same G (upd G L (.lst (ns.map V.int))) := Same.new nL
          have gL : (upd G L (.lst (ns.map V.int))) L = some (.lst (ns.map V.int)) := upd_same
          dsimp only [gName]
          generalize upd G L (.lst (ns.map V.int)) = J1 at eL gL ⊢
          show tSeq (tIfS _ _ _) _ _ _ _
          refine seq_mid (a := tIfS _ _ _) (fun σ J => σ = [some (.ref p), some (.ref a), some (.int m), some (.ref D), some (.ref R), some (.int (0 + (i : Nat))), some (.ref L), none] ∧ ButS p G J ∧ Src (n + 2 * i + 2) J p ∧ ∃ ys, J L = some (.lst ys) ∧ ys.length < 1000 ∧ ∀ y ∈ ys, flatV y = true ∧ ∃ k, Any K J y k) (fun Kn hK => ?_) (fun σ J hc => ?_)
          · skip
            refine ⟨_, rfl, Nat.zero_le _, fun Y nY => ?_⟩
            have y4 : Same J1 (upd J1 Y (.lst [])) := Same.new nY
            have gL2 := y4 _ _ gL
            refine ⟨.list (ns.map PyData.int), .list [], .lst (SqL.of gL2) (dp_ints _), .lst (SqL.of upd_same) .nil, shaped_ints _, rfl, !ns.isEmpty, by rw [eqv_nilI], ?_⟩
            have e02 : Same G (upd J1 Y (.lst [])) := eL.trans y4
            generalize upd J1 Y (.lst []) = J2 at y4 gL2 e02 ⊢
            have S2 : Src (n + 2 * i) J2 p := SG.same e02
            cases hz : ns.isEmpty with
            | true =>
              have ez : ns = [] := List.isEmpty_iff.mp hz
              exact iteF (hK _ _ ⟨rfl, ButS.same e02, S2.mono (by omega), [], by rw [gL2, ez] <;> rfl, by decide, fun y m => by cases m⟩)
            | false =>
              have l0 : 0 < ns.length := by
                cases ns with
                | nil => cases hz
                | cons w ws => simp
              refine iteT ⟨_, rfl, _, rfl, _, _, rfl, rfl, _, rfl, _, rfl, by show 7 ≤ sizeLine; decide, fun od nod => ?_⟩
              have e3 : Same J2 (upd J2 od (.lst [V.int 0, .int 1, .int (m - 1), .int m, .int (-1), .str "0", .non])) := Same.new nod
              have flats : ∀ x ∈ [V.int 0, .int 1, .int (m - 1), .int m, .int (-1), .str "0", .non], flatV x = true ∧ ∀ H', ∃ k, Any K H' x k := fun x mx => by
                simp only [List.mem_cons, List.not_mem_nil, or_false] at mx
                rcases mx with rfl | rfl | rfl | rfl | rfl | rfl | rfl
                · exact ⟨rfl, fun H' => ⟨_, .int _⟩⟩
                · exact ⟨rfl, fun H' => ⟨_, .int _⟩⟩
                · exact ⟨rfl, fun H' => ⟨_, .int _⟩⟩
                · exact ⟨rfl, fun H' => ⟨_, .int _⟩⟩
                · exact ⟨rfl, fun H' => ⟨_, .int _⟩⟩
                · exact ⟨rfl, fun H' => ⟨_, .str (by decide)⟩⟩
                · exact ⟨rfl, fun H' => ⟨_, .non⟩⟩
              refine ⟨p, od, _, n + 2 * i, rfl, S2.same e3, by omega, SqL.of upd_same, S2.ne nod, Nat.succ_pos _, by show 7 < 1000000; decide, fun J3 j x B3 S3 hx => ?_⟩
              obtain ⟨fx, ax2⟩ := flats x (List.mem_of_getElem? hx)
              have gL3 := B3 _ _ Lp (e3 _ _ gL2)
              have B03 : ButS p G J3 := (ButS.same (e02.trans e3)).trans B3
              have lm : (ns.map V.int).length = ns.length := List.length_map ..
              refine ⟨_, rfl, _, rfl, _, rfl, L, _, rfl, .inl (SqL.of gL3), p, _, n + 2 * i + 1, rfl, S3, by omega, by omega, small_many (by omega), fun J4 d B4 S4 d0 d1 => ?_⟩
              have gL4 := B4 _ _ Lp gL3
              obtain ⟨d, rfl⟩ : ∃ t : Nat, d = (t : Int) := ⟨d.toNat, (Int.toNat_of_nonneg d0).symm⟩
              refine ⟨L, _, (d : Nat), d, rfl, rfl, gL4, ixN_nat (by omega), hK _ _ ⟨rfl, fun b o nb h => ?_, (S4.put Lp).mono (by omega), _, upd_same, by rw [List.length_set]; omega, fun y my => ?_⟩⟩
              · rw [upd_ne (fun z => by rw [← z, h] at nL; cases nL)]
                exact B4 _ _ nb (B03 _ _ nb h)
              · rcases List.mem_or_eq_of_mem_set my with z | z
                · obtain ⟨w, _, rfl⟩ := List.mem_map.mp z
                  exact ⟨rfl, _, .int w⟩
                · rw [z]
                  exact ⟨fx, ax2 _⟩
          · obtain ⟨rfl, BJ, SJ, ys, gL2, ly, ay⟩ := hc
            have gR2 := BJ _ _ Rp gR
            have BR : ∀ b o, b ≠ R → J b = some o → (upd J R (.lst (xs ++ [.ref L]))) b = some o := fun b o n h => by rw [upd_ne n]; exact h
            refine ⟨_, rfl, .inl ⟨rfl, _, SqL.of gR2⟩, _, rfl, R, _, _, rfl, rfl, gR2, by rw [lx, sizeLine_eq]; omega, ⟨_, _, rfl⟩, fun b o nb h => BR b o (ne_of_none h nRH) (BJ b o nb (B b o nb h)), (SJ.put Rp).mono (by omega), xs ++ [.ref L], upd_same, by rw [List.length_append, lx] <;> rfl, fun x mx => ?_⟩
            rcases List.mem_append.mp mx with z | z
            · obtain ⟨⟨x1, x2⟩, rt, tx⟩ := ax x z
              obtain ⟨d, s, c, hp, _⟩ := SG
              exact ⟨⟨x1, x2⟩, rt, (tx.but hp BJ x1).but gR2 BR x2⟩
            · rw [List.mem_singleton.mp z]
              refine ⟨⟨fun z => Lp (V.ref.inj z), fun z => LR (V.ref.inj z)⟩, some ys, ?_⟩
              exact Tells.but (E := R) ⟨L, false, rfl, gL2, ay, ly⟩ gR2 BR fun z => LR (V.ref.inj z)
        · rintro σ G ⟨⟨o5, o6, rfl⟩, B, SG, xs, gR, lx, ax⟩
          exact ⟨_, rfl, q G R xs B (SG.mono (by omega)) nRH Rp gR (fun x mx => ⟨(ax x mx).1.1, (ax x mx).2⟩) (by omega)⟩
end
end OB
namespace OB
open PySem PySem.Spec PyProof.Rows L2 LamX
theorem one_no {m : V} {n : Nat} (h : oneV m = false) (e : m = .int (n : Nat)) (n0 : 0 < n) : False := by
  rw [e] at h
  have z : decide ((1 : Int) ≤ ((n : Nat) : Int)) = false := h
  rw [decide_eq_true (by omega)] at z
  cases z
def OddO (K : PySem.W.Frag) (p : Addr) (H : Hp) (x : V) : Prop := oneV x = false ∧ ∀ H', ButN p H H' → (∃ k, Any K H' x k) ∧ SameV K 2 H' x x
theorem OddO.bn {K : PySem.W.Frag} {p : Addr} {H H' : Hp} {x : V} (h : OddO K p H x) (b : ButN p H H') : OddO K p H' x := ⟨h.1, fun G c => h.2 G (b.trans c)⟩
abbrev sRef : Stmt := top 48
def qRef : Str := "_law_refused_right.<locals>.<lambda>"
def Nr : List Str := ["stream", "stays", "at", "odd", "wrong", "found", "due"]
def StA (TT : List (Addr × Str)) (p : Addr) (n : Nat) (H0 : Hp) (a : Addr) (m : Nat) (odd : V) (W : Addr) (ws : List (Str × V)) (σ : L2.St) (G : Hp) : Prop :=
  ∃ F rs, σ = [some (.ref p), some (.ref a), some (.int (m : Nat)), some odd, some (.ref W), some (.ref F), none] ∧ FS TT p n H0 F rs ws G
def spRef (TT : List (Addr × Str)) : Sp := fun vs H Q _ => ∃ (p a : Addr) (ss : List S3) (n : Nat), vs = [.ref p, .ref a] ∧ Src n H p ∧ n < 900000000 ∧ Row H a ss ∧ a ≠ p ∧ Good ss ∧ ss.length ≤ 60 ∧ Tabs TT H ∧ ∀ H', ButN p H H' → Src (n + 3) H' p → Tabs TT H' → Q (.bl true) H'
section
variable {P : Program} {w : World} {K : PySem.W.Frag} {mg : Str → Option Value} {base : Heap}
theorem scRef : FnScope Nr ["stream", "stays"] (defScope sRef) := ⟨rfl, rfl, rfl, by decide +kernel, rfl, by decide +kernel, by decide +kernel⟩
theorem ok_refR {f c Pt fD fP fO fS fT fG fI fN fX : Addr} {fd fdD fdP fdO fdS fdT fdG fdI fdN : FuncData} {oX : Obj} {C : Cls5} {TT : List (Addr × Str)} (F : FunC K "_law_refused_right" "_law_refused_right" sRef f fd c) (T : TxtC mg)
    (GD : FnOk P w K mg base CX0 1 fD fdD ["stream", "many"] spDraw) (gD : mg "_law_draw" = some (.ref fD)) (kD : PySem.W.keepIn K (.ref fD) = true) (bD : Binds K fdD ["stream", "many"] [])
    (GP : FnOk P w K mg base CX0 2 fP fdP ["stream", "things"] (spPick K)) (gP : mg "_law_pick" = some (.ref fP)) (kP : PySem.W.keepIn K (.ref fP) = true) (bP : Binds K fdP ["stream", "things"] [])
    (GO : FnOk P w K mg base CX0 3 fO fdO ["stream"] (spOdd K)) (gO : mg "_law_odd_stay" = some (.ref fO)) (kO : PySem.W.keepIn K (.ref fO) = true) (bO : Binds K fdO ["stream"] [])
    (GS : FnOk P w K mg base CX0 5 fS fdS ["found", "due"] (spSame (SameV K 4))) (gS : mg "_law_same" = some (.ref fS)) (kS : PySem.W.keepIn K (.ref fS) = true) (bS : Binds K fdS ["found", "due"] [])
    (FT : Fun K "_law_met" "_law_met" sMet fT fdT) (bT : Binds K fdT ["ask"] []) (gT : mg "_law_met" = some (.ref fT)) (ME : MetK K mg C)
    (GG : FnOk P w K mg base (L2.CX P w) 6 fG fdG ["stays", "many", "marks"] (spMGiv K C.S C.M)) (gG : mg "marked_giving" = some (.ref fG)) (kG : PySem.W.keepIn K (.ref fG) = true) (bG : Binds K fdG ["stays", "many", "marks"] [])
    (GI : FnOk P w K mg base (L2.CX P w) 6 fI fdI ["stays", "many", "marks", "thing"] (spMG K C.S C.M)) (gI : mg "is_marked_giving" = some (.ref fI)) (kI : PySem.W.keepIn K (.ref fI) = true) (bI : Binds K fdI ["stays", "many", "marks", "thing"] [])
    (GN : FnOk P w K mg base (L2.CX P w) 6 fN fdN ["stays", "many"] (spMFor K C.S C.M)) (gN : mg "marks_for" = some (.ref fN)) (kN : PySem.W.keepIn K (.ref fN) = true) (bN : Binds K fdN ["stays", "many"] [])
    (gX : mg "_law_last" = some (.ref fX)) (lX : K.lookup fX = some oX) (cX : oX.cls = .type "function")
    (TB : TabB base mg c Pt) (hT : ∀ y ∈ TT, y.1 = Pt → y.2 = qRef) (mT : (Pt, qRef) ∈ TT) : FnOk P w K mg base CX0 9 f fd ["stream", "stays"] (spRef TT) := by
  obtain ⟨ocT, odT, kVT, docT, pmT, anT, cdT, ctT, oslT, rfl, lkT, hcT⟩ := FT.ex
  refine F.ok scRef (fun vs H Q E h => ?_) (fun A outer s H vs Q E hr h => ?_)
  · obtain ⟨p, a, ss, n, rfl, _⟩ := h
    rfl
  · obtain ⟨p, a, ss, n, rfl, S, hn, row, np, g, hl, tabs, q⟩ := h
    have nd := scRef.nd
    have hr1 := hr.mono (show 1 ≤ 8 by decide)
    have hr2 := hr.mono (show 2 ≤ 8 by decide)
    have hr3 := hr.mono (show 3 ≤ 8 by decide)
    have hr5 := hr.mono (show 5 ≤ 8 by decide)
    refine ⟨_, pss_cons (ps_asg (pe_tup (pa_cons (pe_call GD hr1 (by rfl) gD kD bD .nil pass0 (pa_cons (pv 0) (pa_cons (pe_op op_add (pe_callB call_len_seq (by rfl) T.len PySem.boot_len (pa_cons (pv 1) pa_nil)) pe_int) pa_nil))) (pa_cons (pe_call GP hr2 (by rfl) gP kP bP .nil pass0 (pa_cons (pv 0) (pa_cons (pe_lst (pa_cons pe_int (pa_cons (pe_un un_neg pe_int) (pa_cons pe_non (pa_cons pe_bl (pa_cons pe_str (pa_cons (pe_lst (pa_cons pe_int pa_nil)) (pa_cons (pe_tup pa_nil) (pa_cons pe_dnewK (pa_cons (pe_glob (v := .ref fX) (by rfl) gX rfl) pa_nil)))))))))) pa_nil))) pa_nil))) (pg_tup (by rfl) (pgs_cons (pg_name (i := 2) nd rfl (Or.inl rfl)) (pgs_cons (pg_name (i := 3) nd rfl (Or.inr rfl)) pgs_nil))))
      (pss_cons (ps_set (i := 4) nd rfl (Or.inr rfl) (pe_op op_cat (pe_op op_cat (pe_slice sl_list (pv 1) po_none (po_some (pv 2))) (pe_lst (pa_cons (pe_call GO hr3 (by rfl) gO kO bO .nil pass0 (pa_cons (pv 0) pa_nil)) (pa_cons pe_non pa_nil)))) (pe_slice sl_list (pv 1) (po_some (pv 2)) po_none)))
      (pss_cons (ps_set (i := 5) nd rfl (Or.inl rfl) (pe_lst (pa_cons (pe_lamcall (k := 6) (T := TT) (t := fun E => tCall (spMGiv K C.S C.M) [] E (tCons (tVar 4) (tCons (tC (.int 0)) (tCons (tC (.int 0)) tNil)))) (TT := TTMet C) (by rfl) gT FT.kp lkT hcT bT scMet rfl (Or.inl rfl) (met_gives ME) TB rfl mT hT hr (lamS_by (sc := defScope sRef) (by decide +kernel)) rfl (fun _ _ _ _ _ => rfl) (fun A outer s H E f c' hr' => pe_call (E := E) GG hr' (by rfl) gG kG bG .nil (passes_call (takes_of rfl rfl rfl rfl) fun _ _ _ _ h => h) (pa_cons (pv 4) (pa_cons pe_int (pa_cons pe_int pa_nil))))) pa_nil)))
      (pss_cons (ps_expr (pe_bm PySem.F.plainAttrs_list PySem.F.slot_list_append PySem.F.type_list_append mt_append (pv 5) (pa_cons (pe_lamcall (k := 6) (T := TT) (t := fun E => tCall (spMGiv K C.S C.M) [] E (tCons (tVar 1) (tCons (tVar 3) (tCons (tC .non) tNil)))) (TT := TTMet C) (by rfl) gT FT.kp lkT hcT bT scMet rfl (Or.inl rfl) (met_gives ME) TB rfl mT hT hr (lamS_by (sc := defScope sRef) (by decide +kernel)) rfl (fun _ _ _ _ _ => rfl) (fun A outer s H E f c' hr' => pe_call (E := E) GG hr' (by rfl) gG kG bG .nil (passes_call (takes_of rfl rfl rfl rfl) fun _ _ _ _ h => h) (pa_cons (pv 1) (pa_cons (pv 3) (pa_cons pe_non pa_nil))))) pa_nil)))
      (pss_cons (ps_expr (pe_bm PySem.F.plainAttrs_list PySem.F.slot_list_append PySem.F.type_list_append mt_append (pv 5) (pa_cons (pe_lamcall (k := 6) (T := TT) (t := fun E => tCall (spMGiv K C.S C.M) [] E (tCons (tVar 1) (tCons (tC (.int 1)) (tCons (tVar 3) tNil)))) (TT := TTMet C) (by rfl) gT FT.kp lkT hcT bT scMet rfl (Or.inl rfl) (met_gives ME) TB rfl mT hT hr (lamS_by (sc := defScope sRef) (by decide +kernel)) rfl (fun _ _ _ _ _ => rfl) (fun A outer s H E f c' hr' => pe_call (E := E) GG hr' (by rfl) gG kG bG .nil (passes_call (takes_of rfl rfl rfl rfl) fun _ _ _ _ h => h) (pa_cons (pv 1) (pa_cons pe_int (pa_cons (pv 3) pa_nil))))) pa_nil)))
      (pss_cons (ps_expr (pe_bm PySem.F.plainAttrs_list PySem.F.slot_list_append PySem.F.type_list_append mt_append (pv 5) (pa_cons (pe_lamcall (k := 6) (T := TT) (t := fun E => tCall (spMG K C.S C.M) [] E (tCons (tVar 4) (tCons (tC (.int 0)) (tCons (tC (.int 0)) (tCons (tC .non) tNil))))) (TT := TTMet C) (by rfl) gT FT.kp lkT hcT bT scMet rfl (Or.inl rfl) (met_gives ME) TB rfl mT hT hr (lamS_by (sc := defScope sRef) (by decide +kernel)) rfl (fun _ _ _ _ _ => rfl) (fun A outer s H E f c' hr' => pe_call (E := E) GI hr' (by rfl) gI kI bI .nil (passes_call (takes_of rfl rfl rfl rfl) fun _ _ _ _ h => h) (pa_cons (pv 4) (pa_cons pe_int (pa_cons pe_int (pa_cons pe_non pa_nil)))))) pa_nil)))
      (pss_cons (ps_expr (pe_bm PySem.F.plainAttrs_list PySem.F.slot_list_append PySem.F.type_list_append mt_append (pv 5) (pa_cons (pe_lamcall (k := 6) (T := TT) (t := fun E => tCall (spMG K C.S C.M) [] E (tCons (tVar 1) (tCons (tVar 3) (tCons (tC .non) (tCons (tC (.int 1)) tNil))))) (TT := TTMet C) (by rfl) gT FT.kp lkT hcT bT scMet rfl (Or.inl rfl) (met_gives ME) TB rfl mT hT hr (lamS_by (sc := defScope sRef) (by decide +kernel)) rfl (fun _ _ _ _ _ => rfl) (fun A outer s H E f c' hr' => pe_call (E := E) GI hr' (by rfl) gI kI bI .nil (passes_call (takes_of rfl rfl rfl rfl) fun _ _ _ _ h => h) (pa_cons (pv 1) (pa_cons (pv 3) (pa_cons pe_non (pa_cons pe_int pa_nil)))))) pa_nil)))
      (pss_cons (ps_expr (pe_bm PySem.F.plainAttrs_list PySem.F.slot_list_append PySem.F.type_list_append mt_append (pv 5) (pa_cons (pe_lamcall (k := 6) (T := TT) (t := fun E => tCall (spMG K C.S C.M) [] E (tCons (tVar 1) (tCons (tC (.int 2)) (tCons (tVar 3) (tCons (tC (.int 1)) tNil))))) (TT := TTMet C) (by rfl) gT FT.kp lkT hcT bT scMet rfl (Or.inl rfl) (met_gives ME) TB rfl mT hT hr (lamS_by (sc := defScope sRef) (by decide +kernel)) rfl (fun _ _ _ _ _ => rfl) (fun A outer s H E f c' hr' => pe_call (E := E) GI hr' (by rfl) gI kI bI .nil (passes_call (takes_of rfl rfl rfl rfl) fun _ _ _ _ h => h) (pa_cons (pv 1) (pa_cons pe_int (pa_cons (pv 3) (pa_cons pe_int pa_nil)))))) pa_nil)))
      (pss_cons (ps_expr (pe_bm PySem.F.plainAttrs_list PySem.F.slot_list_append PySem.F.type_list_append mt_append (pv 5) (pa_cons (pe_lamcall (k := 6) (T := TT) (t := fun E => tCall (spMFor K C.S C.M) [] E (tCons (tVar 4) (tCons (tC (.int 0)) tNil))) (TT := TTMet C) (by rfl) gT FT.kp lkT hcT bT scMet rfl (Or.inl rfl) (met_gives ME) TB rfl mT hT hr (lamS_by (sc := defScope sRef) (by decide +kernel)) rfl (fun _ _ _ _ _ => rfl) (fun A outer s H E f c' hr' => pe_call (E := E) GN hr' (by rfl) gN kN bN .nil (passes_call (takes_of rfl rfl rfl rfl) fun _ _ _ _ h => h) (pa_cons (pv 4) (pa_cons pe_int pa_nil)))) pa_nil)))
      (pss_cons (ps_expr (pe_bm PySem.F.plainAttrs_list PySem.F.slot_list_append PySem.F.type_list_append mt_append (pv 5) (pa_cons (pe_lamcall (k := 6) (T := TT) (t := fun E => tCall (spMFor K C.S C.M) [] E (tCons (tVar 1) (tCons (tVar 3) tNil))) (TT := TTMet C) (by rfl) gT FT.kp lkT hcT bT scMet rfl (Or.inl rfl) (met_gives ME) TB rfl mT hT hr (lamS_by (sc := defScope sRef) (by decide +kernel)) rfl (fun _ _ _ _ _ => rfl) (fun A outer s H E f c' hr' => pe_call (E := E) GN hr' (by rfl) gN kN bN .nil (passes_call (takes_of rfl rfl rfl rfl) fun _ _ _ _ h => h) (pa_cons (pv 1) (pa_cons (pv 3) pa_nil)))) pa_nil)))
      (pss_cons (ps_set (i := 6) nd rfl (Or.inl rfl) (pe_lst (pa_cons (pe_lst (pa_cons pe_str (pa_cons (pv 2) pa_nil))) (pa_cons (pe_lst (pa_cons pe_str (pa_cons (pv 3) pa_nil))) (pa_cons (pe_lst (pa_cons pe_str (pa_cons (pv 3) pa_nil))) (pa_cons (pe_lst (pa_cons pe_str (pa_cons (pv 2) pa_nil))) (pa_cons (pe_lst (pa_cons pe_str (pa_cons (pv 3) pa_nil))) (pa_cons (pe_lst (pa_cons pe_str (pa_cons (pv 3) pa_nil))) (pa_cons (pe_lst (pa_cons pe_str (pa_cons (pv 2) pa_nil))) pa_nil)))))))))
      (pss_one (ps_ret (pe_call GS hr5 (by rfl) gS kS bS .nil pass0 (pa_cons (pv 5) (pa_cons (pe_op op_cat (pv 6) (pe_lst (pa_cons (pe_lst (pa_cons pe_str (pa_cons (pv 3) pa_nil))) pa_nil))) pa_nil))))))))))))))), ?_⟩
    obtain ⟨us, hu, pu⟩ := id row
    have ll := pu.length
    refine ⟨_, rfl, _, rfl, a, us, rfl, .inl (SqL.of hu), _, _, rfl, rfl, p, ((us.length + 1 : Nat) : Int), n, rfl, S, by omega, by omega, small_many (by omega), fun H1 m B1 S1 m0 m1 => ?_⟩
    obtain ⟨m, rfl⟩ : ∃ i : Nat, m = (i : Int) := ⟨m.toNat, (Int.toNat_of_nonneg m0).symm⟩
    have hm : m ≤ us.length := by omega
    have R1 : LS TT p (n + 1) H H1 := (LS.start S tabs).bs B1 S1
    refine ⟨_, rfl, _, rfl, by show 1 ≤ sizeLine; decide, fun a1 n1 => ?_⟩
    have R1 := R1.same (Same.new (u := .lst [.int 2]) n1)
    have p1 : a1 ≠ p := S1.ne n1
    have g1 : (upd H1 a1 (.lst [.int 2])) a1 = some (.lst [.int 2]) := upd_same
    generalize upd H1 a1 (.lst [.int 2]) = J1 at R1 g1
    refine ⟨Nat.zero_le _, fun a2 n2 => ?_⟩
    have e2 : Same J1 (upd J1 a2 (.tup [])) := Same.new n2
    have R2 := R1.same e2
    have p2 : a2 ≠ p := R1.src.ne n2
    have g1 := e2 _ _ g1
    have g2 : (upd J1 a2 (.tup [])) a2 = some (.tup []) := upd_same
    generalize upd J1 a2 (.tup []) = J2 at R2 g1 g2
    refine fun a3 n3 => ?_
    have e3 : Same J2 (upd J2 a3 (.dK [])) := Same.new n3
    have R3 := R2.same e3
    have p3 : a3 ≠ p := R2.src.ne n3
    have g1 := e3 _ _ g1
    have g2 := e3 _ _ g2
    have g3 : (upd J2 a3 (.dK [])) a3 = some (.dK []) := upd_same
    generalize upd J2 a3 (.dK []) = J3 at R3 g1 g2 g3
    refine ⟨by show 9 ≤ sizeLine; decide, fun od nod => ?_⟩
    have odds : ∀ x ∈ [V.int 0, V.int (-1), V.non, V.bl true, V.str "2", V.ref a1, V.ref a2, V.ref a3, V.ref fX], OddO K p J3 x :=
      any_cons ⟨rfl, fun G b => ⟨⟨_, .int _⟩, SameW.int _⟩⟩ (any_cons ⟨rfl, fun G b => ⟨⟨_, .int _⟩, SameW.int _⟩⟩ (any_cons ⟨rfl, fun G b => ⟨⟨_, .non⟩, SameW.non⟩⟩ (any_cons ⟨rfl, fun G b => ⟨⟨_, .bl _⟩, SameW.bl _⟩⟩ (any_cons ⟨rfl, fun G b => ⟨⟨_, .str (by decide)⟩, SameW.str (by decide)⟩⟩
        (any_cons ⟨rfl, fun G b => ⟨⟨_, .lst (b _ _ p1 (by intro ps z; cases z) g1)⟩, SameW.seq (tp := false) (b _ _ p1 (by intro ps z; cases z) g1) (b _ _ p1 (by intro ps z; cases z) g1) (by simp) (.cons (SameW.int _) .nil)⟩⟩
        (any_cons ⟨rfl, fun G b => ⟨⟨_, .tup (b _ _ p2 (by intro ps z; cases z) g2)⟩, SameW.seq (tp := true) (b _ _ p2 (by intro ps z; cases z) g2) (b _ _ p2 (by intro ps z; cases z) g2) (by simp) .nil⟩⟩
        (any_cons ⟨rfl, fun G b => ⟨⟨_, .dct (b _ _ p3 (by intro ps z; cases z) g3)⟩, SameW.dct (b _ _ p3 (by intro ps z; cases z) g3) (b _ _ p3 (by intro ps z; cases z) g3)⟩⟩
        (any_cons ⟨rfl, fun G b => ⟨⟨_, .fn lX cX⟩, SameW.fn lX cX⟩⟩ any_nil))))))))
    have R4 := R3.same (Same.new (u := .lst [V.int 0, V.int (-1), V.non, V.bl true, V.str "2", V.ref a1, V.ref a2, V.ref a3, V.ref fX]) nod)
    refine ⟨p, od, _, n + 1, rfl, R4.src, by omega, SqL.of upd_same, R3.src.ne nod, Nat.succ_pos _, by show 9 < 1000000; decide, fun H2 j odd B2 S2 hx => ?_⟩
    have oddJ := odds odd (List.mem_of_getElem? hx)
    have b2 : ButN p J3 H2 := (ButN.same (Same.new nod)).trans (ButN.of B2)
    have odd2 := oddJ.bn b2
    have R5 : LS TT p (n + 2) H H2 := R4.bs B2 S2
    clear odds oddJ b2 g1 g2 g3 nod p1 p2 p3 hx B2 S2 R4 R3 R2 R1 n1 n2 n3 e2 e3
    refine ⟨by show 2 ≤ sizeLine; decide, fun tt ntt => ⟨tt, _, rfl, SqT.of upd_same, rfl, .int (m : Nat), _, rfl, odd, _, rfl, rfl, ?_⟩⟩
    have R6 := R5.same (Same.new (u := .tup [.int (m : Nat), odd]) ntt)
    have odd3 := odd2.bn (ButN.same (Same.new (u := .tup [.int (m : Nat), odd]) ntt))
    dsimp only [gName, gCons, gNil]
    generalize upd H2 tt (.tup [.int (m : Nat), odd]) = H3 at R6 odd3 ⊢
    obtain ⟨vs, hv, pv1⟩ := row.bn S np R6.but
    have lv := pv1.length
    refine ⟨_, rfl, _, rfl, (m : Nat), rfl, a, vs, rfl, SqL.of hv, fun l1 m1 => ?_⟩
    rw [cut_to vs m (by omega)]
    have R7 := R6.same (Same.new (u := .lst (vs.take m)) m1)
    have gl1 : (upd H3 l1 (.lst (vs.take m))) l1 = some (.lst (vs.take m)) := upd_same
    have lp : l1 ≠ p := R6.src.ne m1
    have k1 : Same H3 (upd H3 l1 (.lst (vs.take m))) := Same.new m1
    generalize upd H3 l1 (.lst (vs.take m)) = H4 at R7 gl1 k1
    refine ⟨_, rfl, p, n + 2, rfl, R7.src, by omega, fun H5 o B5 S5 ho fresh => ?_⟩
    have onp : o ≠ .ref p := fun z => by
      obtain ⟨d, x, c, hp, _⟩ := R7.src
      rw [fresh p z] at hp
      cases hp
    have R8 : LS TT p (n + 3) H H5 := R7.bs B5 S5
    have gl1 := B5 _ _ lp gl1
    have odd5 := (odd3.bn (ButN.same k1)).bn (ButN.of B5)
    refine ⟨by show 2 ≤ sizeLine; decide, fun l2 m2 => ?_⟩
    refine ⟨l1, l2, _, _, rfl, rfl, Same.new m2 _ _ gl1, upd_same, ?_, fun l3 m3 => ?_⟩
    · rw [List.length_take, sizeLine_eq]
      show _ + 2 ≤ _
      omega
    have k2 : Same H5 (upd (upd H5 l2 (.lst [o, .non])) l3 (.lst (vs.take m ++ [o, .non]))) := (Same.new m2).trans (Same.new m3)
    have gl3 : (upd (upd H5 l2 (.lst [o, .non])) l3 (.lst (vs.take m ++ [o, .non]))) l3 = some (.lst (vs.take m ++ [o, .non])) := upd_same
    generalize upd (upd H5 l2 (.lst [o, .non])) l3 (.lst (vs.take m ++ [o, .non])) = H6 at k2 gl3
    have R9 := R8.same k2
    have hv6 := k2 _ _ (B5 _ _ np (k1 _ _ hv))
    refine ⟨_, rfl, _, rfl, (m : Nat), rfl, a, vs, rfl, SqL.of hv6, fun l4 m4 => ?_⟩
    rw [cut_from vs m (by omega)]
    refine ⟨l3, l4, _, _, rfl, rfl, Same.new m4 _ _ gl3, upd_same, ?_, fun W nW => ?_⟩
    · rw [List.length_append, List.length_take, List.length_drop, sizeLine_eq]
      show _ + 2 + _ ≤ _
      omega
    have Wp : W ≠ p := (R9.same (Same.new (u := .lst (vs.drop m)) m4)).src.ne nW
    have k3 : Same H6 (upd (upd H6 l4 (.lst (vs.drop m))) W (.lst (vs.take m ++ [o, .non] ++ vs.drop m))) := (Same.new m4).trans (Same.new nW)
    have R0 : LS TT p (n + 3) H (upd (upd H6 l4 (.lst (vs.drop m))) W (.lst (vs.take m ++ [o, .non] ++ vs.drop m))) := R9.same k3
    have gW : (upd (upd H6 l4 (.lst (vs.drop m))) W (.lst (vs.take m ++ [o, .non] ++ vs.drop m))) W = some (.lst (vs.take m ++ [o, .non] ++ vs.drop m)) := upd_same
    have odd0 := odd5.bn (ButN.same (k2.trans k3))
    have hv0 := k3 _ _ hv6
    have ho0 : Thing K _ o none := ho.same (k2.trans k3)
    dsimp only [gName]
    generalize upd (upd H6 l4 (.lst (vs.drop m))) W (.lst (vs.take m ++ [o, .non] ++ vs.drop m)) = H0 at R0 gW odd0 ho0 hv0 ⊢
    have row0 : Row H0 a ss := row.bn S np R0.but
    have hvz := hv0
    have hoz := ho0
    clear gl3 gl1 hv hv6 hv0 k1 k2 k3 R9 R8 R7 R6 R5 odd5 odd3 odd2 ho B5 S5 fresh m1 m2 m3 m4 nW pv1
    have L0 : LS TT p (n + 3) H0 H0 := LS.start R0.src R0.tabs
    have oddO := odd0.1
    have arga : ∀ {n' : Nat} {G : Hp}, LS TT p n' H0 G → ArgS K G (.ref a) (.inr ss) := fun L => (row0.bn R0.src np L.but).l.arg g (by omega)
    have argW : ∀ {n' : Nat} {G : Hp}, LS TT p n' H0 G → ArgS K G (.ref W) (.inl m) := fun {n' G} L => by
      obtain ⟨vt, hvt, pvt⟩ := row0.bn R0.src np L.but
      have ev : vt = vs := by
        rw [L.but _ _ np (by intro ps z; cases z) hvz] at hvt
        exact (HO.lst.inj (Option.some.inj hvt)).symm
      subst ev
      exact wrong_arg pvt g (by omega) (hoz.bn R0.src L.src L.but onp) (by omega) (L.but _ _ Wp (by intro ps z; cases z) gW)
    have bnd : ∀ {n' : Nat} {ws : List (Str × V)} {rs : List V} {F : Addr} {G : Hp}, FS TT p n' H0 F rs ws G → ws.length ≤ 20 → rs.length < sizeLine := fun h l => by
      have := h.res.length
      rw [sizeLine_eq]
      omega
    refine seq_mid (a := tAsg _ _) (StA TT p (n + 3) H0 a m odd W [("stays", .int (m : Nat))]) (fun Kn hK => ?_) (fun σ G hc => ?_)
    · refine ⟨L0.tabs, fun H3 e3 t3 => ⟨_, rfl, .ref W, .int 0, .int 0, .int, .int, .inl m, rfl, argW (L0.ext e3 t3), .int _, .int _, fun j ej => ?_, fun ss2 e => by cases e⟩⟩
      obtain rfl := Sum.inl.inj ej
      exact met_bad .s fun G4 T e4 nT gT => ⟨by show 1 ≤ sizeLine; decide, fun F nF => hK _ _ ⟨F, [.ref T], rfl, FS.first L0 e3 t3 e4 gT nF⟩⟩
    refine seq_mid (a := tDrop _) (StA TT p (n + 3) H0 a m odd W [("stays", .int (m : Nat)), ("many", odd)]) (fun Kn hK => ?_) (fun σ G hc => ?_)
    · obtain ⟨F, rs, rfl, h⟩ := hc
      refine ⟨_, rfl, .inl ⟨rfl, _, SqL.of h.at_⟩, h.s.tabs, fun H3 e3 t3 => ?_⟩
      have rr := h.s.ext e3 t3
      obtain ⟨⟨ko, ao⟩, _⟩ := odd0.2 H3 rr.but
      refine ⟨_, rfl, _, rfl, .ref a, odd, .non, ko, .non, .inr ss, rfl, arga rr, ao, .non, (fun j e => by cases e), fun ss2 es2 => ?_⟩
      obtain rfl := Sum.inr.inj es2
      exact ⟨fun _ => met_bad .m fun G4 T e4 nT gT => ⟨F, rs, .ref T, rfl, rfl, (h.more e3 t3 e4 nT gT).1, bnd h (by simp), hK _ _ ⟨F, _, rfl, (h.more e3 t3 e4 nT gT).2⟩⟩, fun z => (by rw [oddO] at z; cases z), fun n2 m2 en _ n0 => (one_no oddO en n0).elim⟩
    refine seq_mid (a := tDrop _) (StA TT p (n + 3) H0 a m odd W [("stays", .int (m : Nat)), ("many", odd), ("many", odd)]) (fun Kn hK => ?_) (fun σ G hc => ?_)
    · obtain ⟨F, rs, rfl, h⟩ := hc
      refine ⟨_, rfl, .inl ⟨rfl, _, SqL.of h.at_⟩, h.s.tabs, fun H3 e3 t3 => ?_⟩
      have rr := h.s.ext e3 t3
      obtain ⟨⟨ko, ao⟩, _⟩ := odd0.2 H3 rr.but
      refine ⟨_, rfl, _, rfl, .ref a, .int 1, odd, .int, ko, .inr ss, rfl, arga rr, .int _, ao, (fun j e => by cases e), fun ss2 es2 => ?_⟩
      obtain rfl := Sum.inr.inj es2
      exact ⟨fun z => (by cases z), fun _ _ => met_bad .m fun G4 T e4 nT gT => ⟨F, rs, .ref T, rfl, rfl, (h.more e3 t3 e4 nT gT).1, bnd h (by simp), hK _ _ ⟨F, _, rfl, (h.more e3 t3 e4 nT gT).2⟩⟩, fun n2 m2 _ em _ m0 => (one_no oddO em m0).elim⟩
    refine seq_mid (a := tDrop _) (StA TT p (n + 3) H0 a m odd W [("stays", .int (m : Nat)), ("many", odd), ("many", odd), ("stays", .int (m : Nat))]) (fun Kn hK => ?_) (fun σ G hc => ?_)
    · obtain ⟨F, rs, rfl, h⟩ := hc
      refine ⟨_, rfl, .inl ⟨rfl, _, SqL.of h.at_⟩, h.s.tabs, fun H3 e3 t3 => ?_⟩
      have rr := h.s.ext e3 t3
      refine ⟨_, rfl, .ref W, .int 0, .int 0, .non, .int, .int, .inl m, rfl, argW rr, .int _, .int _, fun j ej => ?_, fun ss2 e => by cases e⟩
      obtain rfl := Sum.inl.inj ej
      exact met_bad .s fun G4 T e4 nT gT => ⟨F, rs, .ref T, rfl, rfl, (h.more e3 t3 e4 nT gT).1, bnd h (by simp), hK _ _ ⟨F, _, rfl, (h.more e3 t3 e4 nT gT).2⟩⟩
    refine seq_mid (a := tDrop _) (StA TT p (n + 3) H0 a m odd W [("stays", .int (m : Nat)), ("many", odd), ("many", odd), ("stays", .int (m : Nat)), ("many", odd)]) (fun Kn hK => ?_) (fun σ G hc => ?_)
    · obtain ⟨F, rs, rfl, h⟩ := hc
      refine ⟨_, rfl, .inl ⟨rfl, _, SqL.of h.at_⟩, h.s.tabs, fun H3 e3 t3 => ?_⟩
      have rr := h.s.ext e3 t3
      obtain ⟨⟨ko, ao⟩, _⟩ := odd0.2 H3 rr.but
      refine ⟨_, rfl, _, rfl, .ref a, odd, .non, .int 1, ko, .non, .inr ss, rfl, arga rr, ao, .non, (fun j e => by cases e), fun ss2 es2 => ?_⟩
      obtain rfl := Sum.inr.inj es2
      exact ⟨fun _ => met_bad .m fun G4 T e4 nT gT => ⟨F, rs, .ref T, rfl, rfl, (h.more e3 t3 e4 nT gT).1, bnd h (by simp), hK _ _ ⟨F, _, rfl, (h.more e3 t3 e4 nT gT).2⟩⟩, fun z => (by rw [oddO] at z; cases z), fun n2 m2 en _ n0 => (one_no oddO en n0).elim⟩
    refine seq_mid (a := tDrop _) (StA TT p (n + 3) H0 a m odd W [("stays", .int (m : Nat)), ("many", odd), ("many", odd), ("stays", .int (m : Nat)), ("many", odd), ("many", odd)]) (fun Kn hK => ?_) (fun σ G hc => ?_)
    · obtain ⟨F, rs, rfl, h⟩ := hc
      refine ⟨_, rfl, .inl ⟨rfl, _, SqL.of h.at_⟩, h.s.tabs, fun H3 e3 t3 => ?_⟩
      have rr := h.s.ext e3 t3
      obtain ⟨⟨ko, ao⟩, _⟩ := odd0.2 H3 rr.but
      refine ⟨_, rfl, _, rfl, .ref a, .int 2, odd, .int 1, .int, ko, .inr ss, rfl, arga rr, .int _, ao, (fun j e => by cases e), fun ss2 es2 => ?_⟩
      obtain rfl := Sum.inr.inj es2
      exact ⟨fun z => (by cases z), fun _ _ => met_bad .m fun G4 T e4 nT gT => ⟨F, rs, .ref T, rfl, rfl, (h.more e3 t3 e4 nT gT).1, bnd h (by simp), hK _ _ ⟨F, _, rfl, (h.more e3 t3 e4 nT gT).2⟩⟩, fun n2 m2 _ em _ m0 => (one_no oddO em m0).elim⟩
    refine seq_mid (a := tDrop _) (StA TT p (n + 3) H0 a m odd W [("stays", .int (m : Nat)), ("many", odd), ("many", odd), ("stays", .int (m : Nat)), ("many", odd), ("many", odd), ("stays", .int (m : Nat))]) (fun Kn hK => ?_) (fun σ G hc => ?_)
    · obtain ⟨F, rs, rfl, h⟩ := hc
      refine ⟨_, rfl, .inl ⟨rfl, _, SqL.of h.at_⟩, h.s.tabs, fun H3 e3 t3 => ?_⟩
      have rr := h.s.ext e3 t3
      refine ⟨_, rfl, .ref W, .int 0, .int, .inl m, rfl, argW rr, .int _, fun j ej => ?_, fun ss2 e => by cases e⟩
      obtain rfl := Sum.inl.inj ej
      exact met_bad .s fun G4 T e4 nT gT => ⟨F, rs, .ref T, rfl, rfl, (h.more e3 t3 e4 nT gT).1, bnd h (by simp), hK _ _ ⟨F, _, rfl, (h.more e3 t3 e4 nT gT).2⟩⟩
    refine seq_mid (a := tDrop _) (StA TT p (n + 3) H0 a m odd W [("stays", .int (m : Nat)), ("many", odd), ("many", odd), ("stays", .int (m : Nat)), ("many", odd), ("many", odd), ("stays", .int (m : Nat)), ("many", odd)]) (fun Kn hK => ?_) (fun σ G hc => ?_)
    · obtain ⟨F, rs, rfl, h⟩ := hc
      refine ⟨_, rfl, .inl ⟨rfl, _, SqL.of h.at_⟩, h.s.tabs, fun H3 e3 t3 => ?_⟩
      have rr := h.s.ext e3 t3
      obtain ⟨⟨ko, ao⟩, _⟩ := odd0.2 H3 rr.but
      refine ⟨_, rfl, _, rfl, .ref a, odd, ko, .inr ss, rfl, arga rr, ao, (fun j e => by cases e), fun ss2 es2 => ?_⟩
      obtain rfl := Sum.inr.inj es2
      exact ⟨fun _ => met_bad .m fun G4 T e4 nT gT => ⟨F, rs, .ref T, rfl, rfl, (h.more e3 t3 e4 nT gT).1, bnd h (by simp), hK _ _ ⟨F, _, rfl, (h.more e3 t3 e4 nT gT).2⟩⟩, fun n2 en n0 => (one_no oddO en n0).elim⟩
    obtain ⟨F, rs, rfl, h⟩ := hc
    refine ⟨_, rfl, by show 2 ≤ sizeLine; decide, fun b1 n1 => ?_⟩
    have e1 : Same G (upd G b1 (.lst [.str "stays", .int (m : Nat)])) := Same.new n1
    have g1 : LRes (upd G b1 (.lst [.str "stays", .int (m : Nat)])) (.ref b1) ("stays", .int (m : Nat)) := ⟨b1, rfl, upd_same⟩
    have h := h.same e1
    generalize upd G b1 (.lst [.str "stays", .int (m : Nat)]) = Ya1 at h e1 g1
    refine ⟨_, rfl, by show 2 ≤ sizeLine; decide, fun b2 n2 => ?_⟩
    have e2 : Same Ya1 (upd Ya1 b2 (.lst [.str "many", odd])) := Same.new n2
    have g2 : LRes (upd Ya1 b2 (.lst [.str "many", odd])) (.ref b2) ("many", odd) := ⟨b2, rfl, upd_same⟩
    have h := h.same e2
    have g1 := g1.ext (ExtN.of e2)
    generalize upd Ya1 b2 (.lst [.str "many", odd]) = Ya2 at h e2 g1 g2
    refine ⟨_, rfl, by show 2 ≤ sizeLine; decide, fun b3 n3 => ?_⟩
    have e3 : Same Ya2 (upd Ya2 b3 (.lst [.str "many", odd])) := Same.new n3
    have g3 : LRes (upd Ya2 b3 (.lst [.str "many", odd])) (.ref b3) ("many", odd) := ⟨b3, rfl, upd_same⟩
    have h := h.same e3
    have g1 := g1.ext (ExtN.of e3)
    have g2 := g2.ext (ExtN.of e3)
    generalize upd Ya2 b3 (.lst [.str "many", odd]) = Ya3 at h e3 g1 g2 g3
    refine ⟨_, rfl, by show 2 ≤ sizeLine; decide, fun b4 n4 => ?_⟩
    have e4 : Same Ya3 (upd Ya3 b4 (.lst [.str "stays", .int (m : Nat)])) := Same.new n4
    have g4 : LRes (upd Ya3 b4 (.lst [.str "stays", .int (m : Nat)])) (.ref b4) ("stays", .int (m : Nat)) := ⟨b4, rfl, upd_same⟩
    have h := h.same e4
    have g1 := g1.ext (ExtN.of e4)
    have g2 := g2.ext (ExtN.of e4)
    have g3 := g3.ext (ExtN.of e4)
    generalize upd Ya3 b4 (.lst [.str "stays", .int (m : Nat)]) = Ya4 at h e4 g1 g2 g3 g4
    refine ⟨_, rfl, by show 2 ≤ sizeLine; decide, fun b5 n5 => ?_⟩
    have e5 : Same Ya4 (upd Ya4 b5 (.lst [.str "many", odd])) := Same.new n5
    have g5 : LRes (upd Ya4 b5 (.lst [.str "many", odd])) (.ref b5) ("many", odd) := ⟨b5, rfl, upd_same⟩
    have h := h.same e5
    have g1 := g1.ext (ExtN.of e5)
    have g2 := g2.ext (ExtN.of e5)
    have g3 := g3.ext (ExtN.of e5)
    have g4 := g4.ext (ExtN.of e5)
    generalize upd Ya4 b5 (.lst [.str "many", odd]) = Ya5 at h e5 g1 g2 g3 g4 g5
    refine ⟨_, rfl, by show 2 ≤ sizeLine; decide, fun b6 n6 => ?_⟩
    have e6 : Same Ya5 (upd Ya5 b6 (.lst [.str "many", odd])) := Same.new n6
    have g6 : LRes (upd Ya5 b6 (.lst [.str "many", odd])) (.ref b6) ("many", odd) := ⟨b6, rfl, upd_same⟩
    have h := h.same e6
    have g1 := g1.ext (ExtN.of e6)
    have g2 := g2.ext (ExtN.of e6)
    have g3 := g3.ext (ExtN.of e6)
    have g4 := g4.ext (ExtN.of e6)
    have g5 := g5.ext (ExtN.of e6)
    generalize upd Ya5 b6 (.lst [.str "many", odd]) = Ya6 at h e6 g1 g2 g3 g4 g5 g6
    refine ⟨_, rfl, by show 2 ≤ sizeLine; decide, fun b7 n7 => ?_⟩
    have e7 : Same Ya6 (upd Ya6 b7 (.lst [.str "stays", .int (m : Nat)])) := Same.new n7
    have g7 : LRes (upd Ya6 b7 (.lst [.str "stays", .int (m : Nat)])) (.ref b7) ("stays", .int (m : Nat)) := ⟨b7, rfl, upd_same⟩
    have h := h.same e7
    have g1 := g1.ext (ExtN.of e7)
    have g2 := g2.ext (ExtN.of e7)
    have g3 := g3.ext (ExtN.of e7)
    have g4 := g4.ext (ExtN.of e7)
    have g5 := g5.ext (ExtN.of e7)
    have g6 := g6.ext (ExtN.of e7)
    generalize upd Ya6 b7 (.lst [.str "stays", .int (m : Nat)]) = Ya7 at h e7 g1 g2 g3 g4 g5 g6 g7
    refine ⟨by show 7 ≤ sizeLine; decide, fun dl ndl => ?_⟩
    have e0 : Same Ya7 (upd Ya7 dl (.lst [V.ref b1, V.ref b2, V.ref b3, V.ref b4, V.ref b5, V.ref b6, V.ref b7])) := Same.new ndl
    have gdl : (upd Ya7 dl (.lst [V.ref b1, V.ref b2, V.ref b3, V.ref b4, V.ref b5, V.ref b6, V.ref b7])) dl = some (.lst [V.ref b1, V.ref b2, V.ref b3, V.ref b4, V.ref b5, V.ref b6, V.ref b7]) := upd_same
    have h := h.same e0
    have g1 := g1.ext (ExtN.of e0)
    have g2 := g2.ext (ExtN.of e0)
    have g3 := g3.ext (ExtN.of e0)
    have g4 := g4.ext (ExtN.of e0)
    have g5 := g5.ext (ExtN.of e0)
    have g6 := g6.ext (ExtN.of e0)
    have g7 := g7.ext (ExtN.of e0)
    dsimp only [gName]
    generalize upd Ya7 dl (.lst [V.ref b1, V.ref b2, V.ref b3, V.ref b4, V.ref b5, V.ref b6, V.ref b7]) = Za at h gdl e0 g1 g2 g3 g4 g5 g6 g7 ⊢
    refine ⟨_, rfl, _, rfl, _, rfl, by show 2 ≤ sizeLine; decide, fun b8 n8 => ?_⟩
    have e8 : Same Za (upd Za b8 (.lst [.str "many", odd])) := Same.new n8
    have g8 : LRes (upd Za b8 (.lst [.str "many", odd])) (.ref b8) ("many", odd) := ⟨b8, rfl, upd_same⟩
    generalize upd Za b8 (.lst [.str "many", odd]) = Y8 at e8 g8
    refine ⟨by show 1 ≤ sizeLine; decide, fun d2 nd2 => ⟨dl, d2, _, _, rfl, rfl, Same.new nd2 _ _ (e8 _ _ gdl), upd_same, by show 7 + 1 ≤ sizeLine; decide, fun Lf nLf => ?_⟩⟩
    have e9 : Same Y8 (upd (upd Y8 d2 (.lst [V.ref b8])) Lf (.lst ([V.ref b1, V.ref b2, V.ref b3, V.ref b4, V.ref b5, V.ref b6, V.ref b7] ++ [V.ref b8]))) := (Same.new nd2).trans (Same.new nLf)
    have gL : (upd (upd Y8 d2 (.lst [V.ref b8])) Lf (.lst ([V.ref b1, V.ref b2, V.ref b3, V.ref b4, V.ref b5, V.ref b6, V.ref b7] ++ [V.ref b8]))) Lf = some (.lst ([V.ref b1, V.ref b2, V.ref b3, V.ref b4, V.ref b5, V.ref b6, V.ref b7] ++ [V.ref b8])) := upd_same
    generalize upd (upd Y8 d2 (.lst [V.ref b8])) Lf (.lst ([V.ref b1, V.ref b2, V.ref b3, V.ref b4, V.ref b5, V.ref b6, V.ref b7] ++ [V.ref b8])) = Zf at e9 gL
    have ez := e8.trans e9
    have h := h.same ez
    have due : Paired (LRes Zf) ([V.ref b1, V.ref b2, V.ref b3, V.ref b4, V.ref b5, V.ref b6, V.ref b7] ++ [V.ref b8]) ([("stays", .int (m : Nat)), ("many", odd), ("many", odd), ("stays", .int (m : Nat)), ("many", odd), ("many", odd), ("stays", .int (m : Nat)), ("many", odd)] : List (Str × V)) := .cons (g1.ext (ExtN.of ez)) (.cons (g2.ext (ExtN.of ez)) (.cons (g3.ext (ExtN.of ez)) (.cons (g4.ext (ExtN.of ez)) (.cons (g5.ext (ExtN.of ez)) (.cons (g6.ext (ExtN.of ez)) (.cons (g7.ext (ExtN.of ez)) (.cons (g8.ext (ExtN.of e9)) .nil)))))))
    have sm := (odd0.2 Zf h.s.but).2
    have lr := h.res.length
    have hw : ∀ y ∈ ([("stays", .int (m : Nat)), ("many", odd), ("many", odd), ("stays", .int (m : Nat)), ("many", odd), ("many", odd), ("stays", .int (m : Nat)), ("many", odd)] : List (Str × V)), y.1.length ≤ 100 ∧ SameV K 2 Zf y.2 y.2 := by
      intro y my
      simp only [List.mem_cons, List.not_mem_nil, or_false] at my
      rcases my with rfl | rfl | rfl | rfl | rfl | rfl | rfl | rfl
      all_goals first
        | exact ⟨(by decide : ("stays" : Str).length ≤ 100), SameW.int _⟩
        | exact ⟨(by decide : ("many" : Str).length ≤ 100), sm⟩
    refine ⟨.ref F, .ref Lf, rfl, SameW.seq (tp := false) h.at_ gL (by rw [lr]; simp) (pairs_same h.res due hw), fun Y e => ?_⟩
    have hY := h.same e
    exact q Y (R0.but.trans hY.s.but) hY.s.src hY.s.tabs
end
end OB
namespace OB
open PySem PySem.Spec PyProof.Rows L2 LamX
/-- what is given, as a value -/
def DueV (G : Hp) (dv : V) (res : Option (List Int)) : Prop := match res with
  | none => dv = .non
  | some ns => ∃ D : Addr, dv = .ref D ∧ G D = some (.lst (ns.map V.int))
theorem DueV.ext {G G' : Hp} {dv : V} {res : Option (List Int)} (h : DueV G dv res) (e : ExtN G G') : DueV G' dv res := by
  cases res with
  | none => exact h
  | some ns =>
    obtain ⟨D, e1, h⟩ := h
    exact ⟨D, e1, e _ _ h (by intro ps z; cases z)⟩
theorem DueV.bs {G G' : Hp} {dv : V} {res : Option (List Int)} {p : Addr} (h : DueV G dv res) (e : ButS p G G') (n : dv ≠ .ref p) : DueV G' dv res := by
  cases res with
  | none => exact h
  | some ns =>
    obtain ⟨D, e1, h⟩ := h
    exact ⟨D, e1, e _ _ (fun z => n (by rw [e1, z])) h⟩
theorem DueV.same_ {K : PySem.W.Frag} {G : Hp} {dv tv : V} {res : Option (List Int)} {d : Nat} (h : DueV G dv res) (h2 : DueV G tv res) (l : ∀ ns, res = some ns → ns.length < 10000000) : SameV K (d + 2) G tv dv := by
  cases res with
  | none =>
    obtain rfl : dv = .non := h
    obtain rfl : tv = .non := h2
    exact SameW.non
  | some ns =>
    obtain ⟨D, rfl, h⟩ := h
    obtain ⟨T, rfl, h2⟩ := h2
    refine SameW.seq (tp := false) h2 h (by rw [List.length_map]; exact l ns rfl) ?_
    clear h h2 l
    induction ns with
    | nil => exact .nil
    | cons n ns ih => exact .cons (SameW.int n) ih
theorem bind_mgiv {kV doc pm : Value} {an : Option Addr} {cdv ct : Value} : ∀ ws : List Value, ws.length = 3 → bindArgs (PySem.W.fnOf "marked_giving" "marked_giving" (defArgs sMGiv) (defBody sMGiv) (defScope sMGiv) .none kV doc pm an cdv ct) ⟨[], (["marks", "many", "stays"] : List Str).zip ws⟩ = pure ((["stays", "many", "marks"] : List Str).zip ws.reverse)
  | [_, _, _], _ => rfl
theorem bind_isMG {kV doc pm : Value} {an : Option Addr} {cdv ct : Value} : ∀ ws : List Value, ws.length = 4 → bindArgs (PySem.W.fnOf "is_marked_giving" "is_marked_giving" (defArgs sIsMG) (defBody sIsMG) (defScope sIsMG) .none kV doc pm an cdv ct) ⟨[], (["thing", "marks", "many", "stays"] : List Str).zip ws⟩ = pure ((["stays", "many", "marks", "thing"] : List Str).zip ws.reverse)
  | [_, _, _, _], _ => rfl
theorem bind_mfor {kV doc pm : Value} {an : Option Addr} {cdv ct : Value} : ∀ ws : List Value, ws.length = 2 → bindArgs (PySem.W.fnOf "marks_for" "marks_for" (defArgs sMFor) (defBody sMFor) (defScope sMFor) .none kV doc pm an cdv ct) ⟨[], (["many", "stays"] : List Str).zip ws⟩ = pure ((["stays", "many"] : List Str).zip ws.reverse)
  | [_, _], _ => rfl
/-! ### the law itself -/
abbrev sLaw : Stmt := top 49
def Nlw : List Str := ["script", "turn", "stream", "stays", "many", "handed", "needed", "before", "marks", "due", "told", "thing", "own"]
theorem scLaw : FnScope Nlw ["script"] (defScope sLaw) := ⟨rfl, rfl, rfl, by decide +kernel, rfl, by decide +kernel, by decide +kernel⟩
/-- the law's own context, at the outermost caller -/
abbrev cxLaw (P : Program) (w : World) (K : PySem.W.Frag) (mg : Str → Option Value) (base : Heap) (fa : Addr) (cdv : Value) (s : Shared) (H : Hp) : Cx := (cxOf CX0 P w K mg base Nlw "law" (defScope sLaw) fa cdv callerA [] s H (fun _ _ _ => False)).nox
theorem SqL.keepN {K : PySem.W.Frag} {p t : Addr} {H H1 H2 : Hp} {xs : List V} (h : SqL K H t xs) (n : H p = none) (e : Same H H1) (b : ButN p H1 H2) : SqL K H2 t xs := by
  rcases h with (h | ⟨o, h⟩) | h
  · exact .inl (.inl (b _ _ (ne_of_none h n) (by intro ps z; cases z) (e _ _ h)))
  · exact .inl (.inr ⟨o, b _ _ (ne_of_none h n) (by intro ps z; cases z) (e _ _ h)⟩)
  · exact .inr h
/-- the state of the law's names -/
abbrev stQ (a p D h : Addr) (many : Nat) (nd : Option Nat) (b : V) (s1 s8 s9 s10 s11 s12 : Option V) : L2.St := [some (.ref a), s1, some (.ref p), some (.ref D), some (.int (many : Nat)), some (.ref h), some (optN nd), some b, s8, s9, s10, s11, s12]
/-- a told list, made since M -/
def NewV (M : Hp) (p : Addr) (tv : V) : Prop := ∀ T : Addr, tv = .ref T → T ≠ p ∧ ∀ o, (∀ ps, o ≠ .tbl ps) → M T ≠ some o
theorem NewV.of {M G : Hp} {p T : Addr} {n : Nat} (b : ButN p M G) (S : Src n G p) (h : G T = none) : NewV M p (.ref T) := fun T' e => by
  obtain rfl := V.ref.inj e
  have np := S.ne h
  refine ⟨np, fun o no eo => ?_⟩
  have := b _ _ np no eo
  rw [h] at this
  cases this
theorem one_yes {n : Nat} (h : 0 < n) : ¬ oneV (.int ((n : Nat) : Int)) = false := fun z => by
  have z1 : decide ((1 : Int) ≤ ((n : Nat) : Int)) = false := z
  rw [decide_eq_true (by omega)] at z1
  cases z1
theorem num_yes {x : Int} (h : 0 ≤ x) : ¬ numV (V.int x) = false := fun z => by
  have z1 : decide (0 ≤ x) = false := z
  rw [decide_eq_true h] at z1
  cases z1
/-- how many marks are needed, as far as has been tried -/
def NI (ss : List S3) (many i : Nat) (nd : Option Nat) : Prop := match nd with
  | none => ∀ k, 1 ≤ k → k ≤ i → ¬ OM.solB ss many k
  | some m => 1 ≤ m ∧ m ≤ i ∧ OM.solB ss many m ∧ ∀ k, 1 ≤ k → k < m → ¬ OM.solB ss many k
theorem NI.need {ss : List S3} {many : Nat} {nd : Option Nat} (h : NI ss many (ss.length + 1) nd) : OM.NeedM ss many nd := by
  cases nd with
  | none => exact fun k h1 h2 => h k h1 (by omega)
  | some m =>
    obtain ⟨a, b, c, d⟩ := h
    refine ⟨a, ?_, c, d⟩
    refine Classical.byContradiction fun z => ?_
    have z1 : max 1 ss.length < m := by omega
    exact d (max 1 ss.length) (by omega) z1 (OM.sol_mono c (.inr (by omega)))
theorem NI.more {ss : List S3} {many i m : Nat} (h : NI ss many i (some m)) : NI ss many (i + 1) (some m) := ⟨h.1, by have := h.2.1; omega, h.2.2.1, h.2.2.2⟩
theorem NI.step {ss : List S3} {many i : Nat} {nd : Option Nat} {res : Option (List Int)} (h : NI ss many i nd) (e : OM.firstL ss ((i + 1 : Nat) : Int) many ss.length [] = res) : NI ss many (i + 1) (match nd, res with
    | none, some _ => some (i + 1)
    | nd, _ => nd) := by
  cases nd with
  | some m => cases res <;> exact h.more
  | none =>
    cases res with
    | none =>
      intro k h1 h2
      by_cases z : k = i + 1
      · rw [z]
        unfold OM.solB OM.ExL
        rw [e]
        simp
      · exact h k h1 (by omega)
    | some r =>
      refine ⟨by omega, by omega, ?_, fun k h1 h2 => h k h1 (by omega)⟩
      unfold OM.solB OM.ExL
      rw [e] <;> rfl
theorem optN_same {K : PySem.W.Frag} {G : Hp} {d : Nat} (o : Option Nat) : SameV K (d + 1) G (optN o) (optN o) := by
  cases o with
  | none => exact SameW.non
  | some i => exact SameW.int _
section
variable {P : Program} {w : World} {K : PySem.W.Frag} {mg : Str → Option Value} {base : Heap}
theorem law_body {fa fSt fD fC fA fRR fS fLF fLI fTh fG fF fI fM fN a : Addr} {fdSt fdD fdC fdA fdRR fdS fdLF fdLI fdTh fdG fdF fdI fdM fdN : FuncData} {C : Cls5} {cdv : Value} {s : Shared} {H : Hp} {TT : List (Addr × Str)} {ns : List Int} (T : TxtC mg) (TD : TxtD mg) (rp : mg "repr" = none) (hsy : ∃ o, base.get? sysModules = some o)
    (GSt : FnOk P w K mg base CX0 1 fSt fdSt ["script", "k"] (spStream K)) (gSt : mg "_law_stream" = some (.ref fSt)) (kSt : PySem.W.keepIn K (.ref fSt) = true) (bSt : Binds K fdSt ["script", "k"] [])
    (GD : FnOk P w K mg base CX0 1 fD fdD ["stream", "many"] spDraw) (gD : mg "_law_draw" = some (.ref fD)) (kD : PySem.W.keepIn K (.ref fD) = true) (bD : Binds K fdD ["stream", "many"] [])
    (GC : FnOk P w K mg base CX0 3 fC fdC ["stream"] spClose) (gC : mg "_law_close" = some (.ref fC)) (kC : PySem.W.keepIn K (.ref fC) = true) (bC : Binds K fdC ["stream"] [])
    (GA : FnOk P w K mg base CX0 3 fA fdA ["stream", "thing"] spAs2) (gA : mg "_law_as_lists" = some (.ref fA)) (kA : PySem.W.keepIn K (.ref fA) = true) (bA : Binds K fdA ["stream", "thing"] [])
    (GRR : FnOk P w K mg base CX0 9 fRR fdRR ["stream", "stays"] (spRef TT)) (gRR : mg "_law_refused_right" = some (.ref fRR)) (kRR : PySem.W.keepIn K (.ref fRR) = true) (bRR : Binds K fdRR ["stream", "stays"] [])
    (GS : FnOk P w K mg base CX0 4 fS fdS ["found", "due"] (spSame (SameV K 3))) (gS : mg "_law_same" = some (.ref fS)) (kS : PySem.W.keepIn K (.ref fS) = true) (bS : Binds K fdS ["found", "due"] [])
    (GLF : FnOk P w K mg base CX0 11 fLF fdLF ["stays", "many", "marks", "given"] (spLFirst 9)) (gLF : mg "_law_first" = some (.ref fLF)) (kLF : PySem.W.keepIn K (.ref fLF) = true) (bLF : Binds K fdLF ["stays", "many", "marks", "given"] [])
    (GLI : FnOk P w K mg base CX0 3 fLI fdLI ["stays", "many", "marks", "thing"] (spLIM K)) (gLI : mg "_law_is_given" = some (.ref fLI)) (kLI : PySem.W.keepIn K (.ref fLI) = true) (bLI : Binds K fdLI ["stays", "many", "marks", "thing"] [])
    (GTh : FnOk P w K mg base CX0 3 fTh fdTh ["stream", "stays", "many", "given"] (spThings K)) (gTh : mg "_law_things" = some (.ref fTh)) (kTh : PySem.W.keepIn K (.ref fTh) = true) (bTh : Binds K fdTh ["stream", "stays", "many", "given"] [])
    (GG : FnOk P w K mg base (L2.CX P w) 6 fG fdG ["stays", "many", "marks"] (spMGiv K C.S C.M)) (gG : mg "marked_giving" = some (.ref fG)) (kG : PySem.W.keepIn K (.ref fG) = true) (bG : Binds K fdG ["stays", "many", "marks"] [])
    (GF : FnOk P w K mg base (L2.CX P w) 6 fF fdF ["stays", "many"] (spFull K C.S C.M)) (gF : mg "full_day" = some (.ref fF)) (kF : PySem.W.keepIn K (.ref fF) = true) (bF : Binds K fdF ["stays", "many"] [])
    (GI : FnOk P w K mg base (L2.CX P w) 6 fI fdI ["stays", "many", "thing"] (spIsG K C.S C.M)) (gI : mg "is_giving" = some (.ref fI)) (kI : PySem.W.keepIn K (.ref fI) = true) (bI : Binds K fdI ["stays", "many", "thing"] [])
    (GM : FnOk P w K mg base (L2.CX P w) 6 fM fdM ["stays", "many", "marks", "thing"] (spMG K C.S C.M)) (gM : mg "is_marked_giving" = some (.ref fM)) (kM : PySem.W.keepIn K (.ref fM) = true)
    (GN : FnOk P w K mg base (L2.CX P w) 6 fN fdN ["stays", "many"] (spMFor K C.S C.M)) (gN : mg "marks_for" = some (.ref fN)) (kN : PySem.W.keepIn K (.ref fN) = true)
    (qG : KBn K fdG ["stays", "many", "marks"] 0 ["marks", "many", "stays"] (fun _ ws => ws.reverse) (fun _ zs => zs.reverse)) (qM : KBn K fdM ["stays", "many", "marks", "thing"] 0 ["thing", "marks", "many", "stays"] (fun _ ws => ws.reverse) (fun _ zs => zs.reverse)) (qN : KBn K fdN ["stays", "many"] 0 ["many", "stays"] (fun _ ws => ws.reverse) (fun _ zs => zs.reverse))
    (hS : SqL K H a (ns.map V.int)) (hn : ns.length ≤ 100) (tabs : Tabs TT H) (hr : Room 11 (cxLaw P w K mg base fa cdv s H).A) :
    ∃ t, PSs (cxLaw P w K mg base fa cdv s H) (defBody sLaw) t ∧ t { nx := fun _ _ => (V.non = .bl true), rt := fun v _ => v = .bl true } (L2.start Nlw [.ref a]) H := by
  have nd := scLaw.nd
  have hgd : (cxLaw P w K mg base fa cdv s H).A.guards = some [] := rfl
  have hun := hr.units
  have hr1 := hr.mono (show 1 ≤ 11 by decide)
  have hr3 := hr.mono (show 3 ≤ 11 by decide)
  have hr4 := hr.mono (show 4 ≤ 11 by decide)
  have hr6 := hr.mono (show 6 ≤ 11 by decide)
  have hr9 := hr.mono (show 9 ≤ 11 by decide)
  refine ⟨_, pss_cons (ps_for PassesOwn.never rfl (pi_range1 (by rfl) TD.rng (pa_cons pe_int pa_nil)) (pg_name (i := 1) nd rfl (Or.inl rfl))
      (pss_cons (ps_set (i := 2) nd rfl (Or.inl rfl) (pe_call GSt hr1 (by rfl) gSt kSt bSt .nil pass0 (pa_cons (pv 0) (pa_cons (pv 1) pa_nil))))
      (pss_cons (ps_par (i := 3) (j := 4) (by rfl) nd rfl rfl (by decide) rfl rfl (pa_cons (pe_call GC hr3 (by rfl) gC kC bC .nil pass0 (pa_cons (pv 2) pa_nil)) (pa_cons (pe_op op_add pe_int (pe_call GD hr1 (by rfl) gD kD bD .nil pass0 (pa_cons (pv 2) (pa_cons pe_int pa_nil)))) pa_nil)) (by rfl))
      (pss_cons (ps_par (i := 5) (j := 6) (by rfl) nd rfl rfl (by decide) rfl rfl (pa_cons (pe_call GA hr3 (by rfl) gA kA bA .nil pass0 (pa_cons (pv 2) (pa_cons (pv 3) pa_nil))) (pa_cons pe_non pa_nil)) (by rfl))
      (pss_cons (ps_set (i := 7) nd rfl (Or.inl rfl) (pe_callB (call_show hgd hun hsy) (by rfl) rp (by decide +kernel) (pa_cons (pv 5) pa_nil)))
      (pss_cons (ps_for PassesOwn.never rfl (pi_range2 (by rfl) TD.rng (pa_cons pe_int (pa_cons (pe_op op_add (pe_callB call_len_seq (by rfl) T.len PySem.boot_len (pa_cons (pv 3) pa_nil)) pe_int) pa_nil))) (pg_name (i := 8) nd rfl (Or.inl rfl))
        (pss_cons (ps_if (PW.pt (pw_and (pt_cmpR op_gt (pv 8) pe_int (nomark _)) (pw_and1 (pt_cmpR op_no (pv 6) pe_non (nomark _))))) (pss_one ps_continue) pss_nil)
        (pss_cons (ps_set (i := 9) nd rfl (Or.inl rfl) (pe_call GLF hr (by rfl) gLF kLF bLF .nil pass0 (pa_cons (pv 3) (pa_cons (pv 4) (pa_cons (pv 8) (pa_cons (pe_lst pa_nil) pa_nil))))))
        (pss_cons (ps_set (i := 6) nd rfl (Or.inl rfl) (pe_ifExp (PW.pt (pw_and (pt_cmpR op_isN (pv 6) pe_non (nomark _)) (pw_and1 (pt_cmpR op_no (pv 9) pe_non (nomark _))))) (pv 8) (pv 6)))
        (pss_cons (ps_if (pt_cmpR op_gt (pv 8) pe_int (nomark _)) (pss_one ps_continue) pss_nil)
        (pss_cons (ps_set (i := 10) nd rfl (Or.inl rfl) (pe_callKO (ks := ["marks", "many", "stays"]) (E := noE) GG hr6 (by rfl) gG kG qG pass_no (pk_cons (pv 8) (pk_cons (pv 4) (pk_cons (pv 5) pk_nil)))))
        (pss_cons (ps_if (PW.pt (pw_or (pt_not (pt_val (pe_call GS hr4 (by rfl) gS kS bS .nil pass0 (pa_cons (pv 10) (pa_cons (pv 9) pa_nil))))) (pw_or1 (PW.pt (pw_and (pt_cmpR op_eq (pv 8) pe_int (nomark _)) (pw_and1 (pt_cmpR op_ne (pe_cmpR op_isN (pv 9) pe_non (nomark _)) (pe_cmpR op_no (pe_call (E := noE) GF hr6 (by rfl) gF kF bF .nil pass_no (pa_cons (pv 5) (pa_cons (pv 4) pa_nil))) pe_non (nomark _)) (nomark _)))))))) (pss_one (ps_ret pe_bl)) pss_nil)
        (pss_cons (ps_if (PW.pt (pw_and (pt_cmpR op_eq (pv 8) pe_int (nomark _)) (pw_and (pt_cmpR op_no (pv 9) pe_non (nomark _)) (pw_and1 (pt_not (pt_val (pe_call (E := noE) GI hr6 (by rfl) gI kI bI .nil pass_no (pa_cons (pv 5) (pa_cons (pv 4) (pa_cons (pv 9) pa_nil)))))))))) (pss_one (ps_ret pe_bl)) pss_nil)
        (pss_cons (ps_for PassesOwn.never rfl (pi_list (pe_call GTh hr3 (by rfl) gTh kTh bTh .nil pass0 (pa_cons (pv 2) (pa_cons (pv 3) (pa_cons (pv 4) (pa_cons (pv 9) pa_nil)))))) (pg_name (i := 11) nd rfl (Or.inl rfl))
          (pss_cons (ps_set (i := 12) nd rfl (Or.inl rfl) (pe_call GLI hr3 (by rfl) gLI kLI bLI .nil pass0 (pa_cons (pv 3) (pa_cons (pv 4) (pa_cons (pv 8) (pa_cons (pv 11) pa_nil))))))
          (pss_one (ps_if (pt_not (pt_val (pe_call GS hr4 (by rfl) gS kS bS .nil pass0 (pa_cons (pe_callKO (ks := ["thing", "marks", "many", "stays"]) (E := noE) GM hr6 (by rfl) gM kM qM pass_no (pk_cons (pv 11) (pk_cons (pv 8) (pk_cons (pv 4) (pk_cons (pv 5) pk_nil))))) (pa_cons (pv 12) pa_nil))))) (pss_one (ps_ret pe_bl)) pss_nil))))
        (pss_one (ps_if (pt_cmpR op_no (pv 10) pe_non (nomark _))
          (pss_one (ps_expr (pe_bm PySem.F.plainAttrs_list PySem.F.slot_list_append PySem.F.type_list_append mt_append (pv 10) (pa_cons pe_str pa_nil)))) pss_nil)))))))))))
      (pss_cons (ps_set (i := 9) nd rfl (Or.inl rfl) (pe_call GLF hr (by rfl) gLF kLF bLF .nil pass0 (pa_cons (pv 3) (pa_cons (pv 4) (pa_cons pe_int (pa_cons (pe_lst pa_nil) pa_nil))))))
      (pss_cons (ps_if (pt_not (pt_val (pe_call GS hr4 (by rfl) gS kS bS .nil pass0 (pa_cons (pe_lst (pa_cons (pe_callKO (ks := ["many", "stays"]) (E := noE) GN hr6 (by rfl) gN kN qN pass_no (pk_cons (pv 4) (pk_cons (pv 5) pk_nil))) (pa_cons (pe_call (E := noE) GG hr6 (by rfl) gG kG bG .nil pass_no (pa_cons (pv 5) (pa_cons (pv 4) (pa_cons pe_int pa_nil)))) pa_nil))) (pa_cons (pe_lst (pa_cons (pv 6) (pa_cons (pv 9) pa_nil))) pa_nil))))) (pss_one (ps_ret pe_bl)) pss_nil)
      (pss_one (ps_if (PW.pt (pw_or (pt_cmpR op_ne (pe_callB (call_show hgd hun hsy) (by rfl) rp (by decide +kernel) (pa_cons (pv 5) pa_nil)) (pv 7) (nomark _)) (pw_or1 (pt_not (pt_val (pe_call GRR hr9 (by rfl) gRR kRR bRR .nil pass0 (pa_cons (pv 2) (pa_cons (pv 3) pa_nil)))))))) (pss_one (ps_ret pe_bl)) pss_nil))))))))))
    (pss_one (ps_ret pe_bl)), ?_⟩
  refine ⟨3, rfl, by decide, by decide, ?_⟩
  refine for_range (n := 3) (fun _ σ G => (∃ s1 s2 s3 s4 s5 s6 s7 s8 s9 s10 s11 s12 : Option V, σ = [some (.ref a), s1, s2, s3, s4, s5, s6, s7, s8, s9, s10, s11, s12]) ∧ SqL K G a (ns.map V.int) ∧ Tabs TT G) ⟨⟨_, _, _, _, _, _, _, _, _, _, _, _, rfl⟩, hS, tabs⟩ ?_ ?_
  · rintro i σ G hi ⟨⟨s1, s2, s3, s4, s5, s6, s7, s8, s9, s10, s11, s12, rfl⟩, hS, tabs⟩
    refine ⟨_, rfl, _, rfl, a, i, ns, by rw [Int.zero_add] <;> rfl, hS, hn, by omega, fun G1 p np e1 S1 => ?_⟩
    have R1 : LS TT p 0 G1 G1 := LS.start S1 (Tabs.same tabs e1)
    refine ⟨_, rfl, p, 0, rfl, S1, by decide, fun G3 D ss B3 S3 nD Dp row3 g sms hl => ?_⟩
    have R3 : LS TT p 1000 G1 G3 := R1.bs B3 (S3.mono (by decide))
    refine ⟨_, rfl, p, 3, 1000, rfl, R3.src, by decide, by decide, small_many (n := 3) (by decide), fun G2 d B2 S2 d0 d1 => ⟨_, _, rfl, rfl, ?_⟩⟩
    obtain ⟨many, hmany⟩ : ∃ m : Nat, (1 : Int) + d = ((m : Nat) : Int) := ⟨(1 + d).toNat, by omega⟩
    have m1 : 0 < many ∧ many ≤ 3 := by omega
    refine ⟨_, _, rfl, ?_⟩
    dsimp only
    rw [hmany]
    have R3 : LS TT p 1001 G1 G2 := R3.bs B2 S2
    have row3 : Row G2 D ss := row3.but S3 Dp B2
    obtain ⟨vs, hv, pv1⟩ := id row3
    have lv := pv1.length
    refine ⟨_, rfl, _, rfl, p, D, false, vs, ss, 1001, rfl, R3.src, by omega, hv, Dp, pv1, by omega, fun G4 h tr us B4 S4 nh hp hh pu => ?_⟩
    have R0 : LS TT p 3000 G1 G4 := (R3.bs B4 S4).mono (by omega)
    have lrow0 : LRowP p G4 h ss := ⟨hp, tr, us, hh, pu⟩
    have row0 : Row G4 D ss := row3.but R3.src Dp B4
    obtain ⟨tp, bs, show0, ebs⟩ := lrow0.show_
    have lbs : bs.length = ss.length := by rw [← ebs, List.length_map]
    have small : ∀ y ∈ bs, SmallB y := fun y my => by
      have m1 : y.2 ∈ ss := by rw [← ebs]; exact List.mem_map.mpr ⟨y, my, rfl⟩
      obtain ⟨g1, g2, g3⟩ := g y.2 m1
      obtain ⟨b1, b2, b3⟩ := sms y.2 m1
      unfold SmallB SmallI
      refine ⟨?_, ?_, ?_⟩ <;> omega
    refine ⟨_, _, rfl, ?_⟩
    dsimp only
    refine ⟨_, rfl, p, h, tp, bs, rfl, show0, small, by omega, ?_⟩
    have arg : ∀ {n : Nat} {G : Hp}, LS TT p n G4 G → ArgS K G (.ref h) (.inr ss) := fun R => (lrow0.bn R.but).l.arg g (by omega)
    have rowG : ∀ {n : Nat} {G : Hp}, LS TT p n G4 G → Row G D ss := fun R => row0.bn R0.src Dp R.but
    have Rz : LS TT p 3000 G4 G4 := LS.start R0.src R0.tabs
    clear B2 B3 B4 S2 S3 S4 R3 row3 hv pv1 lv pu hh hp nh tr us lrow0
    have goodL := goodL g
    obtain ⟨vs, hv, pv1⟩ := id row0
    have lv := pv1.length
    refine ⟨_, rfl, D, vs, rfl, .inl (SqL.of hv), _, 2, rfl, rfl, 1, _, rfl, ⟨by omega, by omega, by omega, by omega⟩, ?_⟩
    have hn2 : (((vs.length : Nat) : Int) + 2 - 1).toNat = ss.length + 1 := by omega
    rw [hn2]
    refine for_it walk_range (fun j σ J => (∃ nd s8 s9 s10 s11 s12, σ = stQ a p D h many nd (.str (rowD tp bs).shown) (some (.int (0 + (i : Nat)))) s8 s9 s10 s11 s12 ∧ NI ss many j nd) ∧ LS TT p (3000 + 20 * j) G4 J) ⟨⟨none, _, _, _, _, _, rfl, fun k h1 h2 => by omega⟩, Rz⟩
      (fun _ σ J _ z => trivial) (fun j x σ J J' hj z y => ?_) (fun σ J z => ?_)
    · obtain ⟨rfl, rfl⟩ := y
      obtain ⟨⟨nd, s8, s9, s10, s11, s12, rfl, ni⟩, RJ⟩ := z
      have ex : (fun i : Nat => V.int (1 + ((i : Nat) : Int))) j = V.int (((j + 1 : Nat)) : Int) := congrArg V.int (by omega)
      rw [ex]
      dsimp only [gName]
      refine seq_mid (a := tIfS _ _ _) (fun σ G => σ = stQ a p D h many nd (.str (rowD tp bs).shown) (some (.int (0 + (i : Nat)))) (some (.int ((j + 1 : Nat)))) s9 s10 s11 s12 ∧ G = J') (fun Kn hK => ?_) (fun σ G hc => ?_)
      · refine ⟨_, rfl, _, 3, rfl, rfl, _, rfl, ite2 (fun c => ?_) (fun c => ?_)⟩
        · cases nd with
          | none => exact ⟨_, rfl, rfl, _, rfl, iteF (hK _ _ ⟨rfl, rfl⟩)⟩
          | some m => exact ⟨_, rfl, rfl, _, rfl, iteT ⟨⟨some m, _, _, _, _, _, rfl, ni.more⟩, RJ.mono (by omega)⟩⟩
        · exact iteF (hK _ _ ⟨rfl, rfl⟩)
      obtain ⟨rfl, rfl⟩ := hc
      refine seq_mid (a := tAsg _ _) (fun σ J => ∃ dv res, σ = stQ a p D h many nd (.str (rowD tp bs).shown) (some (.int (0 + (i : Nat)))) (some (.int ((j + 1 : Nat)))) (some dv) s10 s11 s12 ∧ LS TT p (3000 + 20 * j) G4 J ∧ OM.firstL ss ((j + 1 : Nat) : Int) many ss.length [] = res ∧ DueV J dv res ∧ dv ≠ .ref p) (fun Kn hK => ?_) (fun σ G hc => ?_)
      · refine ⟨_, rfl, _, rfl, _, rfl, Nat.zero_le _, fun b nb => ?_⟩
        have RK := RJ.same (Same.new (u := .lst []) nb)
        refine ⟨D, b, ss, [], many, j + 1, rfl, rowG RK, upd_same, g, .nil, Nat.zero_le _, by show ss.length < 0 + 9; omega, by omega, by omega, fun er H2 e2 => ?_, fun rs er H2 D2 e2 hD2 gD2 => ?_⟩
        · exact hK _ _ ⟨.non, none, rfl, RK.same e2, er, rfl, (by intro z; cases z)⟩
        · refine hK _ _ ⟨.ref D2, some rs, rfl, RK.same e2, er, ⟨D2, rfl, gD2⟩, fun z => ?_⟩
          have z := V.ref.inj z
          rcases hD2 with e | e
          · exact RJ.src.ne nb (by rw [← e]; exact z)
          · exact RK.src.ne e z
      obtain ⟨dv, res, rfl, RG, er, dd, dp⟩ := hc
      refine seq_mid (a := tAsg _ _) (fun σ J2 => ∃ nd2, σ = stQ a p D h many nd2 (.str (rowD tp bs).shown) (some (.int (0 + (i : Nat)))) (some (.int ((j + 1 : Nat)))) (some dv) s10 s11 s12 ∧ J2 = G ∧ NI ss many (j + 1) nd2) (fun Kn hK => ?_) (fun σ J2 hc => ?_)
      · have st := ni.step er
        cases nd with
        | some m => exact ⟨_, rfl, rfl, _, rfl, iteF (iteF ⟨_, rfl, hK _ _ ⟨some m, rfl, rfl, ni.more⟩⟩)⟩
        | none =>
          cases res with
          | none =>
            obtain rfl : dv = .non := dd
            exact ⟨_, rfl, rfl, _, rfl, iteT ⟨_, rfl, rfl, _, rfl, iteF ⟨_, rfl, hK _ _ ⟨none, rfl, rfl, st⟩⟩⟩⟩
          | some r =>
            obtain ⟨D2, rfl, _⟩ := id dd
            exact ⟨_, rfl, rfl, _, rfl, iteT ⟨_, rfl, rfl, _, rfl, iteT ⟨_, rfl, hK _ _ ⟨some (j + 1), rfl, rfl, st⟩⟩⟩⟩
      obtain ⟨nd2, rfl, rfl, ni2⟩ := hc
      clear ni
      refine ⟨_, rfl, _, 3, rfl, rfl, _, rfl, ite2 (fun c => ?_) (fun c => ?_)⟩
      · exact ⟨⟨nd2, _, _, _, _, _, rfl, ni2⟩, RG.mono (by omega)⟩
      dsimp only [tNext]
      have snd : ∀ rs, res = some rs → OM.ValidW ss (((j + 1 : Nat)) : Int) rs ∧ rs.length = ss.length ∧ ∀ x ∈ rs, 0 ≤ x ∧ x < (many : Int) := fun rs e => by
        obtain ⟨v, l, hx⟩ := OM.first_sound (er.trans e) .nil
        exact ⟨v, by simpa using l, fun x mx => (hx x mx).resolve_left (by simp)⟩
      have lres : ∀ ns, res = some ns → ns.length < 10000000 := fun ns e => by
        have := (snd ns e).2.1
        omega
      refine seq_mid (a := tAsg _ _) (fun σ J => ∃ tv, σ = stQ a p D h many nd2 (.str (rowD tp bs).shown) (some (.int (0 + (i : Nat)))) (some (.int ((j + 1 : Nat)))) (some dv) (some tv) s11 s12 ∧ LS TT p (3000 + 20 * j) G4 J ∧ DueV J dv res ∧ DueV J tv res ∧ NewV G4 p tv ∧ (∀ T, tv = .ref T → dv ≠ .ref T)) (fun Kn hK => ?_) (fun σ J hc => ?_)
      · refine ⟨_, rfl, _, rfl, _, rfl, rfl, rfl, .ref h, .int (many : Nat), .int ((j + 1 : Nat)), .int, .int, .inr ss, rfl, arg RG, .int _, .int _, (fun j e => by cases e), fun ss2 es2 => ?_⟩
        obtain rfl := Sum.inr.inj es2
        refine ⟨fun z => absurd z (one_yes m1.1), fun _ z => absurd z (one_yes (Nat.succ_pos j)), fun n m en em _ _ => ?_⟩
        obtain rfl : many = n := by
          have := V.int.inj en
          omega
        obtain rfl : j + 1 = m := by
          have := V.int.inj em
          omega
        refine ⟨by omega, fun e2 H2 f2 => ?_, fun rs e2 H2 T2 f2 nT gT => ?_⟩
        · rw [er] at e2
          exact hK _ _ ⟨.non, rfl, RG.same f2, dd.ext (ExtN.of f2), by rw [e2] <;> rfl, (fun T z => by cases z), (fun T z => by cases z)⟩
        · rw [er] at e2
          refine hK _ _ ⟨.ref T2, rfl, RG.same f2, dd.ext (ExtN.of f2), by rw [e2]; exact ⟨T2, rfl, gT⟩, NewV.of RG.but RG.src nT, fun T3 z y => ?_⟩
          obtain rfl := V.ref.inj z
          rw [e2] at dd
          obtain ⟨D3, e3, h3⟩ := dd
          rw [y] at e3
          obtain rfl := V.ref.inj e3
          rw [nT] at h3
          cases h3
      clear dd RG
      obtain ⟨tv, rfl, RG, dd, td, tn, dt⟩ := hc
      refine seq_mid (a := tIfS _ _ _) (fun σ J => σ = stQ a p D h many nd2 (.str (rowD tp bs).shown) (some (.int (0 + (i : Nat)))) (some (.int ((j + 1 : Nat)))) (some dv) (some tv) s11 s12 ∧ LS TT p (3000 + 20 * j) G4 J ∧ DueV J dv res ∧ DueV J tv res) (fun Kn hK => ?_) (fun σ J hc => ?_)
      · refine ⟨_, rfl, _, rfl, tv, dv, rfl, DueV.same_ dd td lres, fun J3 e3 => ⟨true, rfl, iteF ?_⟩⟩
        have R3 := RG.same e3
        have X3 := ExtN.of e3
        have dd := dd.ext X3
        have td := td.ext X3
        refine ⟨_, rfl, rfl, _, rfl, ite2 (fun c => ?_) (fun c => ?_)⟩
        · have j0 : ((j + 1 : Nat) : Int) = 1 := V.int.inj (of_decide_eq_true c)
          refine ⟨_, rfl, rfl, _, rfl, _, rfl, .ref h, .int (many : Nat), .int, .inr ss, rfl, arg R3, .int _, (fun j e => by cases e), fun ss2 es2 => ?_⟩
          obtain rfl := Sum.inr.inj es2
          refine ⟨fun z => absurd z (num_yes (by omega)), fun n en _ H3 f3 => ⟨rfl, rfl, _, rfl, ?_⟩⟩
          obtain rfl := V.int.inj en
          have hsol : OM.solB ss many 1 ↔ res ≠ none := by
            unfold OM.solB OM.ExL
            rw [show ((1 : Nat) : Int) = ((j + 1 : Nat) : Int) from j0.symm, er]
            cases res <;> simp
          have same : decide (V.bl (decide (dv = V.non)) = V.bl (!decide (dayV (OM.fullD (OM.spans ss) ((many : Nat) : Int)) = V.non))) = true := by
            refine decide_eq_true (congrArg V.bl ?_)
            have o1 := OB.one_sol (many := many) g
            have o2 := OM.full_iff (ss := ss) (n := ((many : Nat) : Int)) (by omega)
            rw [hsol, ← o2] at o1
            cases res with
            | none =>
              obtain rfl : dv = .non := dd
              cases hf : OM.fullD (OM.spans ss) ((many : Nat) : Int) with
              | none => exact absurd rfl (o1.mpr hf)
              | some d => rfl
            | some ns2 =>
              obtain ⟨D2, rfl, _⟩ := dd
              rw [o1.mp (by intro z; cases z)]
              rfl
          rw [same]
          exact iteF (hK _ _ ⟨rfl, R3.same f3, dd.ext (ExtN.of f3), td.ext (ExtN.of f3)⟩)
        · exact iteF (hK _ _ ⟨rfl, R3, dd, td⟩)
      clear dd RG td
      obtain ⟨rfl, RG, dd, td⟩ := hc
      refine seq_mid (a := tIfS _ _ _) (fun σ J => σ = stQ a p D h many nd2 (.str (rowD tp bs).shown) (some (.int (0 + (i : Nat)))) (some (.int ((j + 1 : Nat)))) (some dv) (some tv) s11 s12 ∧ LS TT p (3000 + 20 * j) G4 J ∧ DueV J dv res ∧ DueV J tv res) (fun Kn hK => ?_) (fun σ J hc => ?_)
      · refine ⟨_, rfl, rfl, _, rfl, ite2 (fun c => ?_) (fun c => ?_)⟩
        · have j0 : ((j + 1 : Nat) : Int) = 1 := V.int.inj (of_decide_eq_true c)
          cases res with
          | none =>
            obtain rfl : dv = .non := id dd
            exact ⟨_, rfl, rfl, _, rfl, iteF (iteF (hK _ _ ⟨rfl, RG, dd, td⟩))⟩
          | some rs =>
            obtain ⟨D2, rfl, hD2⟩ := id dd
            obtain ⟨va, ln, hx⟩ := snd rs rfl
            rw [j0] at va
            have gv := OB.one_giv g va ln hx
            refine ⟨_, rfl, rfl, _, rfl, iteT ⟨_, rfl, _, rfl, _, rfl, .ref h, .int (many : Nat), .ref D2, .int, .inr ss, rfl, arg RG, .int _, (fun j e => by cases e), fun ss2 es2 => ?_⟩⟩
            obtain rfl := Sum.inr.inj es2
            refine ⟨fun z => absurd z (num_yes (by omega)), fun n en _ => ⟨_, tells_ints (tp := false) hD2 (by omega), fun H6 e6 => ⟨_, rfl, ?_⟩⟩⟩
            obtain rfl := V.int.inj en
            rw [gv]
            exact iteF (hK _ _ ⟨rfl, RG.same e6, dd.ext (ExtN.of e6), td.ext (ExtN.of e6)⟩)
        · exact iteF (hK _ _ ⟨rfl, RG, dd, td⟩)
      clear dd RG td
      obtain ⟨rfl, R3, dd, td⟩ := hc
      refine seq_mid (a := tFor _ _ _) (fun σ J => (∃ s11 s12 : Option V, σ = stQ a p D h many nd2 (.str (rowD tp bs).shown) (some (.int (0 + (i : Nat)))) (some (.int ((j + 1 : Nat)))) (some dv) (some tv) s11 s12) ∧ LS TT p (3000 + 20 * j + 8) G4 J ∧ DueV J dv res ∧ DueV J tv res) (fun Kn hK => ?_) (fun σ J hc => ?_)
      · obtain ⟨us3, hu3, pu3⟩ := rowG R3
        have lu3 := pu3.length
        have gvn : GivenV J dv us3.length := by
          cases res with
          | none => exact .inl dd
          | some ns2 =>
            obtain ⟨D2, e2, h2⟩ := dd
            exact .inr ⟨D2, ns2, e2, h2, by rw [(snd ns2 rfl).2.1, lu3]⟩
        refine ⟨_, rfl, _, rfl, _, rfl, _, rfl, p, D, ((many : Nat) : Int), dv, us3, 3000 + 20 * j, rfl, R3.src, by omega, hu3, Dp, by omega, gvn, dp, fun J5 R xs B5 S5 nR Rp gR tx lx => ?_⟩
        have R5 : LS TT p (3000 + 20 * j + 8) G4 J5 := R3.bs B5 S5
        have dd5 : DueV J5 dv res := dd.bs B5 dp
        have td5 : DueV J5 tv res := td.bs B5 (fun z => (tn _ z).1 rfl)
        refine ⟨R, rfl, ⟨_, SqL.of gR⟩, ?_⟩
        refine for_it (walk_list (xs := xs)) (fun _ σ Z => (∃ s11 s12 : Option V, σ = stQ a p D h many nd2 (.str (rowD tp bs).shown) (some (.int (0 + (i : Nat)))) (some (.int ((j + 1 : Nat)))) (some dv) (some tv) s11 s12) ∧ Same J5 Z) ⟨⟨_, _, rfl⟩, Same.refl _⟩
          (fun _ σ Z _ z => SqL.of (z.2 _ _ gR)) (fun t x σ Z Z' ht z y => ?_) (fun σ Z z => ?_)
        · obtain ⟨rfl, hx⟩ := y
          obtain ⟨⟨t11, t12, rfl⟩, eZ⟩ := z
          obtain ⟨xp, rt, tel⟩ := tx x (List.mem_of_getElem? hx)
          have RZ := R5.same eZ
          have telZ := tel.same eZ
          refine ⟨_, rfl, _, rfl, _, rfl, _, rfl, D, ss, ((many : Nat) : Int), j + 1, x, rt, rfl, rowG RZ, g, by omega, telZ, fun Z2 f2 => ?_⟩
          refine ⟨_, rfl, _, rfl, _, rfl, _, rfl, rfl, rfl, .ref h, .int (many : Nat), .int ((j + 1 : Nat)), x, .int, .int, .inr ss, rfl, arg (RZ.same f2), .int _, .int _, (fun j e => by cases e), fun ss2 es2 => ?_⟩
          obtain rfl := Sum.inr.inj es2
          refine ⟨fun z => absurd z (one_yes m1.1), fun _ z => absurd z (one_yes (Nat.succ_pos j)), fun n m en em _ _ => ⟨rt, telZ.same f2, fun Z3 f3 => ?_⟩⟩
          obtain rfl : many = n := by
            have := V.int.inj en
            omega
          obtain rfl : j + 1 = m := by
            have := V.int.inj em
            omega
          refine ⟨_, rfl, _, _, rfl, SameW.bl _, fun Z4 f4 => ⟨true, rfl, iteF ⟨⟨_, _, rfl⟩, ?_⟩⟩⟩
          exact eZ.trans ((f2.trans f3).trans f4)
        · obtain ⟨⟨t11, t12, rfl⟩, eZ⟩ := z
          exact hK _ _ ⟨⟨_, _, rfl⟩, R5.same eZ, dd5.ext (ExtN.of eZ), td5.ext (ExtN.of eZ)⟩
      clear R3 dd td
      obtain ⟨⟨t11, t12, rfl⟩, R3, dd, td⟩ := hc
      cases res with
      | none =>
        obtain rfl : tv = .non := td
        exact ⟨_, rfl, rfl, _, rfl, iteF ⟨⟨nd2, _, _, _, _, _, rfl, ni2⟩, R3.mono (by omega)⟩⟩
      | some ns2 =>
        obtain ⟨T3, rfl, hT⟩ := td
        obtain ⟨Tp, Tn⟩ := tn T3 rfl
        have ln := (snd ns2 rfl).2.1
        refine ⟨_, rfl, rfl, _, rfl, iteT ⟨_, rfl, .inl ⟨rfl, _, SqL.of hT⟩, T3, _, .str "late", rfl, rfl, hT, by rw [List.length_map, sizeLine_eq]; omega, ?_⟩⟩
        refine ⟨⟨nd2, _, _, _, _, _, rfl, ni2⟩, fun b o nb mo eo => ?_, (R3.src.put Tp).mono (by omega), Tabs.putL R3.tabs hT⟩
        rw [upd_ne (fun z => Tn o mo (by rw [← z]; exact eo))]
        exact R3.but b o nb mo eo
    · obtain ⟨⟨nd, s8, s9, s10, s11, s12, rfl, ni⟩, RJ⟩ := z
      have need := ni.need
      dsimp only
      refine seq_mid (a := tAsg _ _) (fun σ J => ∃ dv res, σ = stQ a p D h many nd (.str (rowD tp bs).shown) (some (.int (0 + (i : Nat)))) s8 (some dv) s10 s11 s12 ∧ LS TT p (3000 + 20 * (ss.length + 1)) G4 J ∧ OM.firstL ss ((2 : Nat) : Int) many ss.length [] = res ∧ DueV J dv res) (fun Kn hK => ?_) (fun σ G hc => ?_)
      · refine ⟨_, rfl, _, rfl, Nat.zero_le _, fun b nb => ?_⟩
        have RK := RJ.same (Same.new (u := .lst []) nb)
        refine ⟨D, b, ss, [], many, 2, rfl, rowG RK, upd_same, g, .nil, Nat.zero_le _, by show ss.length < 0 + 9; omega, by omega, by omega, fun er H2 e2 => ?_, fun rs er H2 D2 e2 hD2 gD2 => ?_⟩
        · exact hK _ _ ⟨.non, none, rfl, RK.same e2, er, rfl⟩
        · exact hK _ _ ⟨.ref D2, some rs, rfl, RK.same e2, er, ⟨D2, rfl, gD2⟩⟩
      clear RJ
      obtain ⟨dv, res, rfl, RJ, er, dd⟩ := hc
      have lres : ∀ ns, res = some ns → ns.length < 10000000 := fun ns e => by
        obtain ⟨v, l, hx⟩ := OM.first_sound (er.trans e) .nil
        have l : ns.length = 0 + ss.length := l
        omega
      refine ⟨_, rfl, _, rfl, rfl, rfl, .ref h, .int (many : Nat), .int, .inr ss, rfl, arg RJ, .int _, (fun j e => by cases e), fun ss2 es2 => ?_⟩
      obtain rfl := Sum.inr.inj es2
      refine ⟨fun z => absurd z (one_yes m1.1), fun n en _ => ?_⟩
      obtain rfl : many = n := by
        have := V.int.inj en
        omega
      refine ⟨by omega, fun o ho H2 e2 => ?_⟩
      obtain rfl := OM.NeedM.one need ho
      have R2 := RJ.same e2
      have dd := dd.ext (ExtN.of e2)
      refine val_mid (t := tCall (spMGiv K C.S C.M) [] noE _) (fun v G => Same H2 G ∧ DueV G v res) (fun Kn hK => ?_) (fun tv G5 hc => ?_)
      · refine ⟨_, rfl, _, rfl, .ref h, .int (many : Nat), .int ((2 : Nat)), .int, .int, .inr ss, rfl, arg R2, .int _, .int _, (fun j e => by cases e), fun ss2 es2 => ?_⟩
        obtain rfl := Sum.inr.inj es2
        refine ⟨fun z => absurd z (one_yes m1.1), fun _ z => absurd z (one_yes (n := 2) (by decide)), fun n m en em _ _ => ?_⟩
        obtain rfl : many = n := by
          have := V.int.inj en
          omega
        obtain rfl : 2 = m := by
          have := V.int.inj em
          omega
        refine ⟨by omega, fun e3 H3 f3 => ?_, fun rs e3 H3 T3 f3 nT gT => ?_⟩
        · rw [er] at e3
          exact hK _ _ ⟨f3, by rw [e3] <;> rfl⟩
        · rw [er] at e3
          exact hK _ _ ⟨f3, by rw [e3]; exact ⟨T3, rfl, gT⟩⟩
      obtain ⟨e3, td⟩ := hc
      refine ⟨by show 2 ≤ sizeLine; decide, fun l1 k1 => ?_⟩
      have E1 : Same H2 (upd G5 l1 (.lst [optN nd, tv])) := e3.trans (Same.new k1)
      have gl1 : (upd G5 l1 (.lst [optN nd, tv])) l1 = some (.lst [optN nd, tv]) := upd_same
      have td := td.ext (ExtN.of (Same.new (u := .lst [optN nd, tv]) k1))
      generalize upd G5 l1 (.lst [optN nd, tv]) = J1 at gl1 E1 td
      refine ⟨_, rfl, _, rfl, by show 2 ≤ sizeLine; decide, fun l2 k2 => ?_⟩
      have E2 : Same J1 (upd J1 l2 (.lst [optN nd, dv])) := Same.new k2
      have gl2 : (upd J1 l2 (.lst [optN nd, dv])) l2 = some (.lst [optN nd, dv]) := upd_same
      generalize upd J1 l2 (.lst [optN nd, dv]) = J2 at gl2 E2
      refine ⟨.ref l1, .ref l2, rfl, SameW.seq (tp := false) (E2 _ _ gl1) gl2 (by simp) (.cons (optN_same _) (.cons (DueV.same_ (dd.ext (ExtN.of (E1.trans E2))) (td.ext (ExtN.of E2)) lres) .nil)), fun J3 e5 => ⟨true, rfl, iteF ?_⟩⟩
      have RJ := R2.same ((E1.trans E2).trans e5)
      refine ⟨_, rfl, p, h, tp, bs, rfl, show0.bn RJ.but, small, by omega, _, rfl, rfl, _, rfl, ?_⟩
      rw [decide_eq_true rfl]
      refine iteF ⟨_, rfl, _, rfl, p, D, ss, _, rfl, RJ.src, by omega, rowG RJ, Dp, g, by omega, RJ.tabs, fun H' b' S' t' => ⟨true, rfl, iteF ?_⟩⟩
      exact ⟨⟨_, _, _, _, _, _, _, _, _, _, _, _, rfl⟩, OB.SqL.keepN hS np e1 ((R0.but.trans RJ.but).trans b'), t'⟩
  · rintro σ G _
    rfl
end
end OB
namespace OB
open PySem PySem.Spec PyProof.Rows L2 LamX
/-! ### what is looked at behind the top -/
def gEs (g : Addr → Option Obj) (N : Addr) : List DictEntry := match g N with
  | some ⟨_, _, .dict es _, _⟩ => es.toList
  | _ => []
def inEs (es : List DictEntry) (x : Str) : Option Value := (es.find? fun e => e.key.isStr x).map (·.val)
def refIn (es : List DictEntry) (x : Str) : Addr := match inEs es x with
  | some (.ref a) => a
  | _ => 0
def adr (g : Addr → Option Obj) (x : Str) : Addr := refIn (gEs g mainGlobals) x
def clNs (g : Addr → Option Obj) (C : Addr) : Addr := match g C with
  | some ⟨_, _, .cls cd, _⟩ => cd.ns
  | _ => 0
def fnCd (g : Addr → Option Obj) (f : Addr) : List Addr := match g f with
  | some ⟨_, _, .func fd, _⟩ => (match fd.code with
    | .ref c => [c]
    | _ => []) ++ fd.closure.map (·.2)
  | _ => []
def fnAs (g : Addr → Option Obj) (f : Addr) : List Addr := f :: fnCd g f
def clsAs (g : Addr → Option Obj) (r : Str × List Str) : List Addr := adr g r.1 :: clNs g (adr g r.1) :: r.2.flatMap fun m => fnAs g (refIn (gEs g (clNs g (adr g r.1))) m)
def fns0 : List (Str × Nat) := [("is_integer", 1), ("is_number", 2), ("is_from_one", 3), ("is_list", 4), ("first_wrong", 5), ("counts_at_begins", 12), ("most_at_once", 13), ("first_day_above", 14), ("is_stay", 16), ("told_stays", 17), ("check_many", 18), ("bound_spans", 19), ("numbers_told", 20), ("lots_by_number", 21), ("is_giving", 22), ("full_day", 23), ("check_from_one", 25), ("lying_spans", 27), ("can_share", 28), ("is_marked_giving", 29), ("goes_on", 30), ("first_marked_giving", 31), ("marked_giving", 32), ("marks_for", 33)]
def fns1 : List (Str × Nat) := [("_law_stream", 35), ("_law_draw", 36), ("_law_pick", 37), ("_law_same", 38), ("_law_as_lists", 39), ("_law_close", 40), ("_law_last", 41), ("_law_odd_stay", 42), ("_law_lets", 43), ("_law_first", 44), ("_law_is_given", 45), ("_law_things", 46), ("_law_met", 47), ("_law_refused_right", 48), ("law", 49)]
def fns : List (Str × Nat) := fns0 ++ fns1
def clss : List (Str × List Str) := [("AddressError", []), ("BadStays", ["__init__"]), ("BadMany", ["__init__"])]
def asK (g : Addr → Option Obj) : List Addr := mainGlobals :: cStatics :: sysModules :: (fns.flatMap (fun p => fnAs g (adr g p.1)) ++ clss.flatMap (clsAs g))
def KO (g : Addr → Option Obj) : PySem.W.Frag := He.frT g (asK g)
/-! ### defs -/
def dFn (p : Str × Nat) : He.FnD := ⟨(p.1, none), p.1, p.1, defArgs (top p.2), defBody (top p.2), defScope (top p.2)⟩
def dMe (c m q : Str) (st : Stmt) : He.FnD := ⟨(c, some m), m, q, defArgs st, defBody st, defScope st⟩
def mes : List He.FnD := []
def fnD : List He.FnD := fns.map dFn ++ mes
/-! ### facts -/
def frees : List Str := ["isinstance", "int", "bool", "str", "list", "tuple", "len", "all", "abs", "sum", "range", "zip", "set", "dict", "any", "enumerate", "repr", "super", "max", "min", "sorted"]
def fa0 : List He.Fa := fns.map (fun p => He.Fa.glo p.1) ++ frees.map He.Fa.free
def fa1 : List He.Fa := [.glo "BadStays", .glo "BadMany", .glo "AddressError", .noat "BadStays" "index", .noat "BadMany" "many", .exm "BadStays" "BadStays" true, .exm "BadMany" "BadStays" false, .exm "BadMany" "BadMany" true]
def fa2 : List He.Fa := fns.map fun p => He.Fa.keep p.1
def faA : List He.Fa := fa0 ++ (fa1 ++ fa2)
def errT : List Value := [.type "ValueError", .type "Exception", .type "BaseException", .type "object"]
def newIs (sl : List (Option Value)) : Bool := match sl with
  | [_, _, _, _, some (.builtin n), _] => n == "ValueError.__new__"
  | _ => false
def errShape (K : PySem.W.Frag) (C cE : Addr) : Bool := match K.lookup C with
  | some ⟨.type "type", _, .cls cd, sl⟩ => decide (cd.mro = .ref C :: .ref cE :: errT) && (cd.hasDict && (!cd.hasDel && newIs sl.toList))
  | _ => false
def fileIs (K : PySem.W.Frag) (file : Str) (cda : Addr) : Bool := match K.lookup cda with
  | some ⟨_, _, .fields vs, _⟩ => (match (vs[2]? : Option Value) with
    | some (.str z _) => file == z
    | _ => false)
  | _ => false
def cellIs (K : PySem.W.Frag) (C : Addr) (cl : List (Str × Addr)) : Bool := match cl with
  | [(_, cc)] => (match K.lookup cc with
    | some ⟨_, _, .cell (some (.ref C')), _⟩ => C' == C
    | _ => false)
  | _ => false
def initShape (K : PySem.W.Frag) (file : Str) (C f : Addr) : Bool := match K.lookup f with
  | some ⟨_, _, .func fd, _⟩ => (match fd.code with
      | .ref cda => PySem.W.codeIn K (.ref cda) fd.qualname && fileIs K file cda
      | _ => false) && cellIs K C fd.closure
  | _ => false
abbrev InV : Type := Option (Str × Arguments × FuncBody × Scope × Addr × List Str × Value × Value × Addr)
def initO (K : PySem.W.Frag) (f : Addr) : InV := match K.lookup f with
  | some ⟨_, _, .func fd, _⟩ => some (fd.name, fd.params, fd.body, fd.scope, fd.globals, fd.closure.map (·.1), fd.defaults, fd.kwdefaults, fd.builtins)
  | _ => none
def initV (st : Stmt) : InV := some ("__init__", defArgs st, .stmts (defBody st), defScope st, mainGlobals, ["__class__"], .none, .none, builtinsNs)
def errB (K : PySem.W.Frag) (file x : Str) : Bool := errShape K (He.ga K x) (He.ga K "AddressError") && (PySem.W.keepIn K (.ref (He.ga K x)) && (He.eqO (PySem.W.findIn K (.ref (He.ga K x)) "__setattr__") (some (some (.builtin "object.__setattr__"))) &&
  (He.eqO (PySem.W.findIn K (.ref (He.ga K x)) "__init__") (some (some (.ref (He.ma K (He.ga K x) "__init__")))) && (decide (PySem.W.typeIn K (.ref (He.ma K (He.ga K x) "__init__")) = some (.type "function")) && (He.eqO (PySem.W.ks_superIn K (He.ga K x) (He.ga K x) "__init__") (some (some (.builtin "ValueError.__init__"))) &&
  (PySem.W.excInitIn K (He.ga K x) errT "ValueError.__new__" && (xfB K (He.ga K x) && (initShape K file (He.ga K x) (He.ma K (He.ga K x) "__init__") && (decide (PySem.W.mroIn K (He.ga K x) (.ref (He.ga K x)) = some true) && (decide (PySem.W.subIn K (.ref (He.ga K x)) (.type "ValueError") = some true) &&
  (decide (PySem.W.subIn K (.ref (He.ga K x)) (.type "BaseException") = some true) && decide (PySem.W.typeIn K (.ref (He.ga K x)) = some (.type "type")))))))))))))
def hasB (K : PySem.W.Frag) (a : Addr) : Bool := match K.lookup a with
  | some _ => true
  | none => false
def clsIs (K : PySem.W.Frag) (a : Addr) : Bool := match K.lookup a with
  | some ⟨.type c, _, _, _⟩ => decide (c = "function")
  | _ => false
def tfs : List He.Defn := [("_law_refused_right", none)]
def file : Str := "/claim/cut.py"
def exB (K : PySem.W.Frag) : Bool := (errB K file "BadStays" && (errB K file "BadMany" && (He.eqO (PySem.W.nsIn K cStatics "thirdparty.any") (some none) && (hasB K sysModules && (clsIs K (He.ga K "_law_met") && clsIs K (He.ga K "_law_last"))))))
def inits : List (Str × Stmt) := [("BadStays", inClass (top 9) 0), ("BadMany", inClass (top 10) 0)]
/-! ### the looks -/
abbrev LA : Type := List He.FnV
abbrev LB : Type := Bool
abbrev LC : Type := List InV
def lkA (g : Addr → Option Obj) : LA := fnD.map fun d => He.fnObs (KO g) d.at_
def lkB (g : Addr → Option Obj) : LB := (faA.all fun f => f.ok (KO g)) && fnD.all fun d => (He.Fa.code d.at_ d.qual).ok (KO g)
def lkC (g : Addr → Option Obj) : LC := inits.map fun p => initO (KO g) (He.ma (KO g) (He.ga (KO g) p.1) "__init__")
def lkD (g : Addr → Option Obj) : LB := exB (KO g) && He.tabsB g tfs (KO g)
def vA : LA := fnD.map He.FnD.val
def vC : LC := inits.map fun p => initV p.2
end OB
namespace OB
open PySem PySem.Spec PyProof.Rows L2 LamX
/-! ### what the looks say -/
structure SaysK (w : World) (h : Heap) (K : PySem.W.Frag) : Prop where
  A : (fnD.map fun d => He.fnObs K d.at_) = vA
  B : ((faA.all fun f => f.ok K) && fnD.all fun d => (He.Fa.code d.at_ d.qual).ok K) = true
  C : (inits.map fun p => initO K (He.ma K (He.ga K p.1) "__init__")) = vC
  D : exB K = true
  hd : ∀ p ∈ tfs, PySem.W.codeHdIn K (He.cT K p).1 (He.cT K p).2 = true
  out : ∀ p ∈ tfs, K.lookup (He.cT K p).2 = none
  empty : ∀ p ∈ tfs, h.get? (He.cT K p).2 = some { cls := .none, data := .fields #[] }
theorem SaysK.keeps {w : World} {h h' : Heap} {K : PySem.W.Frag} (s : SaysK w h K) (k : ∀ b o, h.get? b = some o → h'.get? b = some o) : SaysK w h' K := ⟨s.A, s.B, s.C, s.D, s.hd, s.out, fun p m => k _ _ (s.empty p m)⟩
abbrev LookT : Type := LA × (LB × (LC × LB))
def lk (g : Addr → Option Obj) : LookT := (lkA g, (lkB g, (lkC g, lkD g)))
def vl (w : World) : LookT := (vA, (true, (vC, true)))
theorem says_of {w : World} {h : Heap} (e : lk h.get? = vl w) : ∃ K : PySem.W.Frag, K.In h ∧ SaysK w h K := by
  refine ⟨KO h.get?, He.frT_in, ?_⟩
  have eA : lkA h.get? = vA := congrArg (fun z : LookT => z.1) e
  have eB : lkB h.get? = true := congrArg (fun z : LookT => z.2.1) e
  have eC : lkC h.get? = vC := congrArg (fun z : LookT => z.2.2.1) e
  have eD : lkD h.get? = true := congrArg (fun z : LookT => z.2.2.2) e
  obtain ⟨d1, d2⟩ := Bool.and_eq_true_iff.mp (show (exB (KO h.get?) && He.tabsB h.get? tfs (KO h.get?)) = true from eD)
  have key : ∀ p ∈ tfs, PySem.W.codeHdIn (KO h.get?) (He.cT (KO h.get?) p).1 (He.cT (KO h.get?) p).2 = true ∧ ∃ o, h.get? (He.cT (KO h.get?) p).2 = some o ∧ He.emptyTab o = true := fun p hp => by
    obtain ⟨h3, h4⟩ := Bool.and_eq_true_iff.mp (List.all_eq_true.mp (show (tfs.all fun p => PySem.W.codeHdIn (KO h.get?) (He.cT (KO h.get?) p).1 (He.cT (KO h.get?) p).2 && (match h.get? (He.cT (KO h.get?) p).2 with
      | some o => He.emptyTab o
      | none => false)) = true from d2) p hp)
    refine ⟨h3, ?_⟩
    cases q : h.get? (He.cT (KO h.get?) p).2 with
    | none =>
      rw [q] at h4
      cases h4
    | some o =>
      rw [q] at h4
      exact ⟨o, rfl, h4⟩
  refine ⟨eA, eB, eC, d1, fun p m => (key p m).1, fun p m => ?_, fun p m => ?_⟩
  · obtain ⟨_, o, q, z⟩ := key p m
    exact He.frT_none q z
  · obtain ⟨_, o, q, z⟩ := key p m
    rw [q, He.emptyTab_eq z]
section
variable {w : World} {h : Heap} {K : PySem.W.Frag} {mg : Str → Option Value} {base : Heap}
theorem SaysK.fact (s : SaysK w h K) {f : He.Fa} (m : f ∈ faA) : f.ok K = true := List.all_eq_true.mp (Bool.and_eq_true_iff.mp s.B).1 f m
theorem SaysK.def_ (s : SaysK w h K) {d : He.FnD} (m : d ∈ fnD) : ∃ oc od osl kV doc pm an cdv ct, K.lookup (He.fAd K d.at_) = some ⟨oc, od, .func (PySem.W.fnOf d.name d.qual d.params d.body d.scope .none kV doc pm an cdv ct), osl⟩ ∧ PySem.W.codeIn K cdv d.qual = true := by
  obtain ⟨i, hi, e⟩ := List.mem_iff_getElem.mp m
  have e2 : (fnD.map fun d => He.fnObs K d.at_)[i]? = (fnD.map He.FnD.val)[i]? := by rw [s.A] <;> rfl
  rw [List.getElem?_map, List.getElem?_map, List.getElem?_eq_getElem hi, e] at e2
  exact He.fn_ok (Option.some.inj e2) (List.all_eq_true.mp (Bool.and_eq_true_iff.mp s.B).2 d m)
theorem mem_fa0 {p : Str × Nat} (m : p ∈ fns) : He.Fa.glo p.1 ∈ faA := List.mem_append_left _ (List.mem_append_left _ (List.mem_map.mpr ⟨p, m, rfl⟩))
theorem mem_free {x : Str} (m : x ∈ frees) : He.Fa.free x ∈ faA := List.mem_append_left _ (List.mem_append_right _ (List.mem_map.mpr ⟨x, m, rfl⟩))
theorem mem_fa1 {f : He.Fa} (m : f ∈ fa1) : f ∈ faA := List.mem_append_right _ (List.mem_append_left _ m)
theorem mem_fa2 {p : Str × Nat} (m : p ∈ fns) : He.Fa.keep p.1 ∈ faA := List.mem_append_right _ (List.mem_append_right _ (List.mem_map.mpr ⟨p, m, rfl⟩))
/-- a def of the top -/
theorem SaysK.fn (s : SaysK w h K) (X : K.In base) (G : base.Ns mainGlobals mg) {x : Str} {i : Nat} (m : (x, i) ∈ fns) : mg x = some (.ref (He.ga K x)) ∧ ∃ fd, Fun K x x (top i) (He.ga K x) fd := by
  refine ⟨He.glo_ok X G (s.fact (mem_fa0 m)), ?_⟩
  obtain ⟨oc, od, osl, kV, doc, pm, an, cdv, ct, lk, hc⟩ := s.def_ (d := dFn (x, i)) (List.mem_append_left _ (List.mem_map.mpr ⟨_, m, rfl⟩))
  exact ⟨_, ⟨oc, od, kV, doc, pm, an, cdv, ct, osl, rfl, lk, hc⟩, s.fact (mem_fa2 m)⟩
theorem SaysK.free (s : SaysK w h K) (X : K.In base) (G : base.Ns mainGlobals mg) {x : Str} (m : x ∈ frees) : mg x = none := He.free_ok X G (s.fact (mem_free m))
end
end OB
namespace OB
open PySem PySem.Spec PyProof.Rows L2 LamX
/-! ### the two errors -/
theorem shape_ok {K : PySem.W.Frag} {C cE : Addr} (c : errShape K C cE = true) : ∃ nm q N bs sn sub ab col dd k0 k1 k2 k3 k5, K.lookup C = some (excClassObj nm q C N bs (.ref cE :: errT) true sn sub ab col dd k0 k1 k2 k3 k5 "ValueError.__new__") := by
  unfold errShape at c
  split at c
  · rename_i dd cd sl e
    simp only [Bool.and_eq_true, Bool.not_eq_true', decide_eq_true_eq] at c
    obtain ⟨c1, c2, c3, c4⟩ := c
    obtain ⟨nm, bs, mro, ns, qn, hd, sn, sb, ab, col, del⟩ := cd
    dsimp only at c1 c2 c3
    subst c1 c2 c3
    unfold newIs at c4
    split at c4
    · rename_i k0 k1 k2 k3 n k5 hs
      have en : n = "ValueError.__new__" := beq_iff_eq.mp c4
      subst en
      have hsl : sl = #[k0, k1, k2, k3, some (.builtin "ValueError.__new__"), k5] := by
        obtain ⟨l⟩ := sl
        simp only at hs
        rw [hs]
      subst hsl
      exact ⟨nm, qn, ns, bs, sn, sb, ab, col, dd, k0, k1, k2, k3, k5, e⟩
    · cases c4
  · cases c
structure ErrC (K : PySem.W.Frag) (x : Str) : Prop where
  shape : errShape K (He.ga K x) (He.ga K "AddressError") = true
  keep : PySem.W.keepIn K (.ref (He.ga K x)) = true
  sa : PySem.W.findIn K (.ref (He.ga K x)) "__setattr__" = some (some (.builtin "object.__setattr__"))
  iC : PySem.W.findIn K (.ref (He.ga K x)) "__init__" = some (some (.ref (He.ma K (He.ga K x) "__init__")))
  tC : PySem.W.typeIn K (.ref (He.ma K (He.ga K x) "__init__")) = some (.type "function")
  sup : PySem.W.ks_superIn K (He.ga K x) (He.ga K x) "__init__" = some (some (.builtin "ValueError.__init__"))
  exI : PySem.W.excInitIn K (He.ga K x) errT "ValueError.__new__" = true
  xf : XfC K (He.ga K x)
  ini : initShape K file (He.ga K x) (He.ma K (He.ga K x) "__init__") = true
  sub : PySem.W.mroIn K (He.ga K x) (.ref (He.ga K x)) = some true
  subV : PySem.W.subIn K (.ref (He.ga K x)) (.type "ValueError") = some true
  subB : PySem.W.subIn K (.ref (He.ga K x)) (.type "BaseException") = some true
  ty : PySem.W.typeIn K (.ref (He.ga K x)) = some (.type "type")
theorem errC_of {K : PySem.W.Frag} {x : Str} (e : errB K file x = true) : ErrC K x := by
  unfold errB at e
  simp only [Bool.and_eq_true, decide_eq_true_eq] at e
  obtain ⟨e1, e2, e3, e4, e5, e6, e7, e8, e9, e10, e11, e12, e13⟩ := e
  exact ⟨e1, e2, He.eqO_ok e3, He.eqO_ok e4, e5, He.eqO_ok e6, e7, xfB_ok e8, e9, e10, e11, e12, e13⟩
def IsInit (f : Str) (st : Stmt) : Prop := ∃ p1 p2 tx a b c d e e' g h i j, defArgs st = OE.eA f p1 p2 ∧ defBody st = [OE.eB0 tx a b c d e e', OE.eB1 f g h i j] ∧ defScope st = OE.eS f ∧ (c.endLine == e.line) = true
theorem iniStays : IsInit "index" (inClass (top 9) 0) := ⟨_, _, _, _, _, _, _, _, _, _, _, _, _, rfl, rfl, rfl, rfl⟩
theorem iniMany : IsInit "many" (inClass (top 10) 0) := ⟨_, _, _, _, _, _, _, _, _, _, _, _, _, rfl, rfl, rfl, rfl⟩
theorem bdsStays : OE.Bds "index" := fun fd h1 h2 h3 x u => by
  obtain ⟨n1, n2, ps, b, s, c, d1, d2, g⟩ := fd
  obtain ⟨p1, p2, h1⟩ := h1
  dsimp only at h1 h2 h3
  subst h1 h2 h3
  exact ⟨rfl, rfl⟩
theorem bdsMany : OE.Bds "many" := fun fd h1 h2 h3 x u => by
  obtain ⟨n1, n2, ps, b, s, c, d1, d2, g⟩ := fd
  obtain ⟨p1, p2, h1⟩ := h1
  dsimp only at h1 h2 h3
  subst h1 h2 h3
  exact ⟨rfl, rfl⟩
theorem init_of {P : Program} {K : PySem.W.Frag} {x : Str} {st : Stmt} (hf : file = P.main.file) (c : ErrC K x) (o : initO K (He.ma K (He.ga K x) "__init__") = initV st) :
    ∃ (oc : Value) (od : Option Addr) (doc pm : Value) (an : Option Addr) (ct : Value) (osl : Array (Option Value)) (qual : Str) (cc cda : Addr) (vs : Array Value) (fl : Str) (tf : Tok) (ccl cl : Value) (cdd cld : Option Addr) (ccs csl : Array (Option Value)),
    K.lookup (He.ma K (He.ga K x) "__init__") = some ⟨oc, od, .func (PySem.W.fnX "__init__" qual (defArgs st) (defBody st) (defScope st) [("__class__", cc)] .none .none doc pm an (.ref cda) ct), osl⟩ ∧ PySem.W.codeIn K (.ref cda) qual = true ∧
    K.lookup cda = some ⟨ccl, cdd, .fields vs, ccs⟩ ∧ vs[2]? = some (.str fl tf) ∧ ((P.main.file : Str) == fl) = true ∧ K.lookup cc = some ⟨cl, cld, .cell (some (.ref (He.ga K x))), csl⟩ := by
  have h := c.ini
  unfold initShape at h
  unfold initO at o
  cases e : K.lookup (He.ma K (He.ga K x) "__init__") with
  | none =>
    rw [e] at h
    cases h
  | some ob =>
    obtain ⟨oc, od, dt, osl⟩ := ob
    rw [e] at h o
    cases dt with
    | func fd =>
      obtain ⟨n1, n2, n3, n4, n5, n6, n7, n8, n9, n10, n11, n12, n13, n14, n15⟩ := fd
      dsimp only at h o
      simp only [Bool.and_eq_true] at h
      obtain ⟨h1, h2⟩ := h
      have o2 : (some (n1, n3, n4, n5, n6, n7.map (·.1), n8, n9, n15) : InV) = initV st := o
      unfold initV at o2
      simp only [Option.some.injEq, Prod.mk.injEq] at o2
      obtain ⟨o1, o2, o3, o4, o5, o6, o7, o8, o9⟩ := o2
      subst o1 o2 o3 o4 o5 o7 o8 o9
      unfold cellIs at h2
      split at h2
      · rename_i y cc
        split at h2
        · rename_i cl cld C' csl ec
          have eC : C' = He.ga K x := beq_iff_eq.mp h2
          subst eC
          have ex : y = ("__class__" : Str) := by simpa using o6
          subst ex
          split at h1
          · rename_i cda
            simp only [Bool.and_eq_true] at h1
            obtain ⟨g1, g2⟩ := h1
            unfold fileIs at g2
            split at g2
            · rename_i ccl cdd vs ccs ek
              split at g2
              · rename_i fl tf ev
                exact ⟨oc, od, n10, n11, n12, n14, osl, n2, cc, cda, vs, fl, tf, ccl, cl, cdd, cld, ccs, csl, rfl, g1, ek, ev, by rw [← hf]; exact g2, ec⟩
              · cases g2
            · cases g2
          · cases h1
        · cases h2
      · cases h2
    | _ => cases h
theorem errK_of {P : Program} {K : PySem.W.Frag} {mg : Str → Option Value} {x f : Str} {st : Stmt} (hf : file = P.main.file) (c : ErrC K x) (o : initO K (He.ma K (He.ga K x) "__init__") = initV st) (I : IsInit f st) (B : OE.Bds f) (nof : PySem.W.findIn K (.ref (He.ga K x)) f = some none)
    (opq : PySem.W.nsIn K cStatics "thirdparty.any" = some none) (spr : PySem.W.nsIn K mainGlobals "super" = some none) (g : mg x = some (.ref (He.ga K x))) (fok : (f == ("self" : Str)) = false ∧ (f == ("__class__" : Str)) = false ∧ (f == ("super" : Str)) = false ∧ (f == ("__debug__" : Str)) = false) :
    ErrK P K mg x (He.ga K x) (He.ma K (He.ga K x) "__init__") f := by
  obtain ⟨oc, od, doc, pm, an, ct, osl, qual, cc, cda, vs, fl, tf, ccl, cl, cdd, cld, ccs, csl, k1, k2, k3, k4, k5, k6⟩ := init_of (P := P) hf c o
  obtain ⟨nm, q, N, bs, sn, sub, ab, col, dd, m0, m1, m2, m3, m5, hC⟩ := shape_ok c.shape
  have rv : PySem.HandSPX.refsVE (.ref (He.ga K "AddressError") :: errT) = true := by
    show PySem.HandSPX.refsVE errT = true
    decide +kernel
  obtain ⟨p1, p2, tx, a, b, c', d, e0, e', g', h', i', j', i1, i2, i3, i4⟩ := I
  rw [i1, i2, i3] at k1
  exact ⟨⟨⟨nm, q, N, bs, _, sn, sub, ab, col, dd, m0, m1, m2, m3, m5, hC, rv⟩, c.sa, nof, c.iC, c.tC, c.sup, c.sub, c.exI, c.subV, opq, spr, ⟨oc, od, doc, pm, an, ct, osl, p1, p2, tx, a, b, c', d, e0, e', g', h', i', j', qual, cc, cda, vs, fl, tf, ccl, cl, cdd, cld, ccs, csl, k1, k2, i4, k3, k4, k5, k6⟩, fok⟩, B, g, c.keep, c.subB, c.ty⟩
end OB
namespace OB
open PySem PySem.Spec PyProof.Rows L2 LamX
/-! ### the law called by the outermost caller: the script and the tables are ours -/
def tab0 : Obj := { cls := .none, data := .fields #[] }
theorem data_ne {o o' : Obj} (h : o.data ≠ o'.data) : o ≠ o' := fun z => h (congrArg Obj.data z)
theorem law_at {P : Program} {w : World} {K : PySem.W.Frag} {mg mb : Str → Option Value} {fa a : Addr} {cs : List (Addr × Addr)} {s₁ : Shared} {vs : List Value} {ns : List Int}
    (KX : K.In s₁.heap) (nG : s₁.heap.Ns mainGlobals mg) (nB : s₁.heap.Ns builtinsNs mb) (hB : ∀ x : Str, x ≠ "__name__" → mb x = bootBuiltins x) (lim : s₁.heap.NoLimit) (ge : s₁.gens = #[])
    (tT : ∀ p ∈ cs, s₁.heap.get? p.2 = some tab0) (tK : ∀ p ∈ cs, K.lookup p.2 = none) (tC : ∀ p ∈ cs, PySem.W.CodeHd s₁.heap p.1 p.2)
    (bm : ∃ (m : Addr) (ob : Obj), mg "__builtins__" = some (.ref m) ∧ m ≠ builtinsNs ∧ s₁.heap.get? m = some ob ∧ ob.cls = .type "module" ∧ ob.dict = some builtinsNs ∧ ob.data = .plain)
    (ga : s₁.heap.get? a = some { cls := .type "list", data := .seq vs.toArray }) (iv : IntsAre vs ns) (hl : ns.length ≤ sizeLine)
    (run : ∀ (base : Heap) (H : Hp), K.In base → base.Ns mainGlobals mg → (∀ p ∈ cs, TabB base mg p.1 p.2) → (∀ p ∈ cs, H p.2 = some (.tbl #[])) → SqL K H a (ns.map V.int) → Env0 P w K mg base callerA [] s₁ H →
      codeAny (model P w) callerA (.call (.ref fa) ⟨[.ref a], []⟩) (CR CX0 [] P w H s₁ (fun v _ => v = .bl true) (fun _ _ _ => False)) s₁) :
    codeAny (model P w) callerA (.call (.ref fa) ⟨[.ref a], []⟩) (fun r s' => r = .ok (.ret (.bool true)) ∧ OldK s₁.heap s'.heap ∧ s'.os = s₁.os ∧ AllBare s'.gens) s₁ := by
  have rv := vals_ints iv
  have lv := iv.length
  -- what is hidden
  let own : Prop := K.lookup a = none
  let tb := cs.map (·.2)
  have inT : ∀ p ∈ cs, p.2 ∈ tb := fun p m => List.mem_map.mpr ⟨p, m, rfl⟩
  have ofT : ∀ b ∈ tb, s₁.heap.get? b = some tab0 ∧ K.lookup b = none := fun b m => by
    obtain ⟨p, mp, e⟩ := List.mem_map.mp m
    rw [← e]
    exact ⟨tT p mp, tK p mp⟩
  have aT : a ∉ tb := fun z => by
    have q := (ofT a z).1
    rw [ga] at q
    exact data_ne (fun y => by cases y) (Option.some.inj q)
  have main : ∀ (hid : List Addr) (H : Hp), (∀ b, H b ≠ none ↔ b ∈ hid) → (∀ b ∈ hid, b = a ∨ b ∈ tb) → (∀ b ∈ hid, K.lookup b = none) → (∀ p ∈ cs, H p.2 = some (.tbl #[])) → (∀ b, H b = none ∨ (b ∈ tb ∧ H b = some (.tbl #[])) ∨ (b ∉ tb ∧ ∃ o xs, H b = some (.frz o (.lst xs)))) →
      SqL K H a (ns.map V.int) → HOk P w H s₁.heap → codeAny (model P w) callerA (.call (.ref fa) ⟨[.ref a], []⟩) (fun r s' => r = .ok (.ret (.bool true)) ∧ OldK s₁.heap s'.heap ∧ s'.os = s₁.os ∧ AllBare s'.gens) s₁ := by
    intro hid H hH hab hKn hTb hAll hS hok
    have get : ∀ {b : Addr} {o : Obj}, s₁.heap.get? b = some o → b ∉ hid → (PySem.W.hideAll s₁.heap hid).get? b = some o := fun e n => PySem.W.hideAll_get _ e n
    have other : ∀ {b : Addr} {o : Obj}, s₁.heap.get? b = some o → (∀ x n, o.data ≠ .seq x n) → o.data ≠ .fields #[] → b ∉ hid := fun {b o} e n1 n2 m => by
      rcases hab b m with z | z
      · rw [z, ga] at e
        cases e
        exact n1 _ _ rfl
      · rw [(ofT b z).1] at e
        cases e
        exact n2 rfl
    have nsH : ∀ {b : Addr} {m : Str → Option Value}, s₁.heap.Ns b m → (PySem.W.hideAll s₁.heap hid).Ns b m := fun {b m} ⟨o, es, ep, e, d, r⟩ => ⟨o, es, ep, get e (other e (fun x n z => by rw [d] at z; cases z) (fun z => by rw [d] at z; cases z)), d, r⟩
    have KB : K.In (PySem.W.hideAll s₁.heap hid) := fun b o e => get (KX b o e) fun m => by
      rw [hKn b m] at e
      cases e
    have M : L2.Mod K mg (PySem.W.hideAll s₁.heap hid) := ⟨KB, nsH nG, ⟨mb, nsH nB, hB⟩, let ⟨mc, h1, h2⟩ := lim; ⟨mc, nsH h1, h2⟩⟩
    have TB : ∀ p ∈ cs, TabB (PySem.W.hideAll s₁.heap hid) mg p.1 p.2 := fun p mp => by
      refine ⟨?_, ?_, fun z => ?_⟩
      · obtain ⟨o, us, f1, f2, f3, f4, f5, f6, f7, e1, r1, r2, r3, rest⟩ := tC p mp
        refine ⟨o, us, f1, f2, f3, f4, f5, f6, f7, get e1 (other e1 (fun x n z => ?_) fun z => ?_), r1, r2, r3, rest⟩
        · rw [r2] at z
          cases z
        · rw [r2] at z
          have y := Data.fields.inj z
          rw [y] at r3
          simp at r3
      · obtain ⟨m, ob, c1, c2, c3, c4, c5, c6⟩ := bm
        have n1 : m ≠ mainGlobals := fun q => by
          obtain ⟨o, es, ep, e, d, _⟩ := nG
          rw [q, e] at c3
          cases c3
          rw [d] at c6
          cases c6
        have n2 : m ≠ p.2 := fun q => by
          rw [q, tT p mp] at c3
          cases c3
          cases c6
        exact ⟨m, ob, c1, c2, n1, n2, get c3 (other c3 (fun x n z => by rw [c6] at z; cases z) (fun z => by rw [c6] at z; cases z)), c4, c5, c6⟩
      · obtain ⟨o, es, ep, e, d, _⟩ := nG
        rw [z, tT p mp] at e
        cases e
        cases d
    have hN : ∀ b o, (PySem.W.hideAll s₁.heap hid).get? b = some o → s₁.heap.get? b = some o ∧ H b = none := fun b o e => by
      refine ⟨PySem.W.of_hideAll _ e, ?_⟩
      cases q : H b with
      | none => rfl
      | some u =>
        have m : b ∈ hid := (hH b).mp (by rw [q]; simp)
        rw [PySem.W.hideAll_none _ m] at e
        cases e
    have e0 : Env0 P w K mg (PySem.W.hideAll s₁.heap hid) callerA [] s₁ H := ⟨rfl, M, hN, Nat.le_of_eq (PySem.W.hideAll_size _ _), trivial, fun b hb => absurd (show b ∈ ([] : List Addr) from hb) (by simp), hok, .of_eq ge⟩
    refine codeAny_mono (run _ H KB (nsH nG) TB hTb hS e0) fun r s' z => ?_
    cases r with
    | error e => exact (show False from z).elim
    | ok fl =>
      cases fl with
      | next => exact False.elim z
      | brk => exact False.elim z
      | cont => exact False.elim z
      | ret u =>
        obtain ⟨v, H', os, bare, un, hok', rr, q⟩ := z
        have q' : v = .bl true := q
        subst q'
        obtain rfl : u = Value.bool true := rr
        have stays : ∀ b o, b ∉ tb → s₁.heap.get? b = some o → s'.heap.get? b = some o := fun b o nb e => by
          rcases hAll b with y | y | ⟨_, ob, xs, y⟩
          · exact un.keep b o e y (fun z => absurd (show b ∈ ([] : List Addr) from z) (by simp)) (by simp)
          · exact absurd y.1 nb
          · obtain ⟨d1, _⟩ := hok b _ y
            obtain ⟨d2, _⟩ := hok' b _ (un.frzs b ob _ y)
            rw [e] at d1
            cases d1
            exact d2
        have grow : ∀ p ∈ cs, ∃ more : Array Value, s'.heap.get? p.2 = some { cls := .none, data := .fields more } := fun p mp => by
          obtain ⟨more, y⟩ := un.tbls p.2 #[] (hTb p mp)
          exact ⟨_, hok' p.2 _ y⟩
        refine ⟨rfl, ⟨fun b o e => ?_, fun b o e => ?_⟩, os, bare⟩
        · by_cases hb : b ∈ tb
          · obtain ⟨p, mp, ep⟩ := List.mem_map.mp hb
            obtain ⟨more, gm⟩ := grow p mp
            rw [← ep] at e ⊢
            rw [tT p mp] at e
            cases e
            exact .inr (.inl ⟨((tC p mp).tab (tT p mp)).isCodeTable, rfl, #[], more, rfl, by rw [Array.empty_append]; exact gm⟩)
          · exact .inl (stays b o hb e)
        · by_cases hb : b ∈ tb
          · obtain ⟨p, mp, ep⟩ := List.mem_map.mp hb
            obtain ⟨more, gm⟩ := grow p mp
            rw [← ep]
            exact ⟨_, gm⟩
          · exact ⟨o, stays b o hb e⟩
  cases hk : K.lookup a with
  | some o =>
    have e := KX a o hk
    rw [ga] at e
    cases e
    refine main tb (fun b => if b ∈ tb then some (.tbl #[]) else none) (fun b => ?_) (fun b m => .inr m) (fun b m => (ofT b m).2) (fun p mp => if_pos (inT p mp)) (fun b => ?_) (.inr ⟨_, vs.toArray, _, hk, rfl, rfl, rfl, by rw [List.size_toArray, lv]; exact hl, by simpa using rv⟩) (fun b u z => ?_)
    · by_cases hb : b ∈ tb <;> simp [hb]
    · by_cases hb : b ∈ tb
      · exact .inr (.inl ⟨hb, if_pos hb⟩)
      · exact .inl (if_neg hb)
    · by_cases hb : b ∈ tb
      · have y := (if_pos hb).symm.trans z
        cases y
        exact (ofT b hb).1
      · have y := (if_neg hb).symm.trans z
        cases y
  | none =>
    refine main (a :: tb) (fun b => if b = a then some (.frz { cls := .type "list", data := .seq vs.toArray } (.lst (ns.map V.int))) else if b ∈ tb then some (.tbl #[]) else none) (fun b => ?_) (fun b m => ?_) (fun b m => ?_) (fun p mp => ?_) (fun b => ?_) (.inl (.inr ⟨_, if_pos rfl⟩)) (fun b u z => ?_)
    · by_cases h1 : b = a
      · simp [h1]
      · by_cases h2 : b ∈ tb <;> simp [h1, h2]
    · rcases List.mem_cons.mp m with y | y
      · exact .inl y
      · exact .inr y
    · rcases List.mem_cons.mp m with y | y
      · rw [y]
        exact hk
      · exact (ofT b y).2
    · have ne : p.2 ≠ a := fun y => aT (by rw [← y]; exact inT p mp)
      show (if p.2 = a then _ else _) = _
      rw [if_neg ne, if_pos (inT p mp)]
    · by_cases h1 : b = a
      · exact .inr (.inr ⟨by rw [h1]; exact aT, _, _, if_pos h1⟩)
      · by_cases h2 : b ∈ tb
        · exact .inr (.inl ⟨h2, (if_neg h1).trans (if_pos h2)⟩)
        · exact .inl ((if_neg h1).trans (if_neg h2))
    · by_cases h1 : b = a
      · have y := (if_pos h1).symm.trans z
        cases y
        rw [h1]
        exact ⟨ga, by rw [List.length_map]; exact hl, vs, _, rv, ga⟩
      · have y1 := (if_neg h1).symm.trans z
        by_cases h2 : b ∈ tb
        · have y := (if_pos h2).symm.trans y1
          cases y
          exact (ofT b h2).1
        · have y := (if_neg h2).symm.trans y1
          cases y
end OB
namespace OB
open PySem PySem.Spec PyProof.Rows L2 LamX
/-! ### all that the law rests on, as the looks say it -/
section
variable {P : Program} {w : World} {h : Heap} {K : PySem.W.Frag} {mg : Str → Option Value} {base : Heap}
theorem SaysK.fnC (s : SaysK w h K) {x : Str} {i : Nat} (m : (x, i) ∈ fns) : ∃ fd, FunC K x x (top i) (He.ga K x) fd (He.cT K (x, none)).1 := by
  obtain ⟨oc, od, osl, kV, doc, pm, an, cdv, ct, lk, hc⟩ := s.def_ (d := dFn (x, i)) (List.mem_append_left _ (List.mem_map.mpr ⟨_, m, rfl⟩))
  obtain ⟨c, rfl⟩ := He.codeIn_ref hc
  have e : (He.cT K (x, none)).1 = c := He.codeOf_eq (p := (x, none)) lk rfl
  rw [e]
  exact ⟨_, ⟨oc, od, kV, doc, pm, an, ct, osl, rfl, lk, hc⟩, s.fact (mem_fa2 m)⟩
theorem cls_at {K : PySem.W.Frag} {a : Addr} (c : clsIs K a = true) : ∃ o, K.lookup a = some o ∧ o.cls = .type "function" := by
  unfold clsIs at c
  split at c
  · rename_i ty d dt sl e
    have e1 : ty = "function" := of_decide_eq_true c
    exact ⟨_, e, by rw [e1]⟩
  · cases c
theorem has_at {K : PySem.W.Frag} {a : Addr} (c : hasB K a = true) : ∃ o, K.lookup a = some o := by
  unfold hasB at c
  split at c
  · rename_i o e
    exact ⟨o, e⟩
  · cases c
structure ExD (K : PySem.W.Frag) : Prop where
  eStays : ErrC K "BadStays"
  eMany : ErrC K "BadMany"
  opq : PySem.W.nsIn K cStatics "thirdparty.any" = some none
  sys : ∃ o, K.lookup sysModules = some o
  met : ∃ o, K.lookup (He.ga K "_law_met") = some o ∧ o.cls = .type "function"
  last : ∃ o, K.lookup (He.ga K "_law_last") = some o ∧ o.cls = .type "function"
theorem SaysK.ex (s : SaysK w h K) : ExD K := by
  have e := s.D
  unfold exB at e
  simp only [Bool.and_eq_true, Bool.not_eq_true', beq_eq_false_iff_ne] at e
  obtain ⟨e1, e2, e3, e4, e5, e6⟩ := e
  exact ⟨errC_of e1, errC_of e2, He.eqO_ok e3, has_at e4, cls_at e5, cls_at e6⟩
theorem SaysK.init (s : SaysK w h K) : initO K (He.ma K (He.ga K "BadStays") "__init__") = initV (inClass (top 9) 0) ∧ initO K (He.ma K (He.ga K "BadMany") "__init__") = initV (inClass (top 10) 0) := by
  have e : (inits.map fun p => initO K (He.ma K (He.ga K p.1) "__init__")) = inits.map fun p => initV p.2 := s.C
  have e1 : [initO K (He.ma K (He.ga K "BadStays") "__init__"), initO K (He.ma K (He.ga K "BadMany") "__init__")] = [initV (inClass (top 9) 0), initV (inClass (top 10) 0)] := e
  injection e1 with h1 e1
  injection e1 with h2 _
  exact ⟨h1, h2⟩
end
theorem room10 : Room 12 callerA := ⟨rfl, by decide, by decide⟩
section
variable {P : Program} {w : World} {h : Heap} {K : PySem.W.Frag} {mg : Str → Option Value} {base : Heap}
theorem FunC.binds {x qual : Str} {st : Stmt} {f c : Addr} {fd : FuncData} {ps : List Str} (F : FunC K x qual st f fd c)
    (h : ∀ (kV doc pm : Value) (an : Option Addr) (ct : Value) (us : List Value), us.length = ps.length → bindArgs (PySem.W.fnOf x qual (defArgs st) (defBody st) (defScope st) .none kV doc pm an (.ref c) ct) ⟨us, []⟩ = pure (ps.zip us)) : Binds K fd ps [] := by
  obtain ⟨oc, od, kV, doc, pm, an, ct, osl, rfl, lk, hcd⟩ := F.ex
  exact .all (h kV doc pm an ct)
abbrev pRR (K : PySem.W.Frag) : Addr × Addr := He.cT K ("_law_refused_right", none)
abbrev TTs (K : PySem.W.Frag) : List (Addr × Str) := [((pRR K).2, qRef)]
def cls5 (K : PySem.W.Frag) : Cls5 := ⟨He.ga K "BadStays", He.ga K "BadMany"⟩
/-- the law's body at the outermost caller -/
theorem law_run (hP : file = P.main.file) (htop : (P.main.scope.names.lookup ("super" : Str)).isSome = false) (s : SaysK w h K) (X : K.In base) (G : base.Ns mainGlobals mg) (TBRR : TabB base mg (pRR K).1 (pRR K).2)
    {fa a : Addr} {cdv : Value} {s₁ : Shared} {H : Hp} {ns : List Int} (hS : SqL K H a (ns.map V.int)) (hn : ns.length ≤ 100) (tabs : Tabs (TTs K) H) (hr : Room 11 (cxLaw P w K mg base fa cdv s₁ H).A) :
    ∃ t, PSs (cxLaw P w K mg base fa cdv s₁ H) (defBody sLaw) t ∧ t { nx := fun _ _ => (V.non = .bl true), rt := fun v _ => v = .bl true } (L2.start Nlw [.ref a]) H := by
  have D := s.ex
  have fr : ∀ {x : Str}, x ∈ frees → mg x = none := fun m => s.free X G m
  have T : TxtC mg := ⟨fr (by simp [frees]), fr (by simp [frees]), fr (by simp [frees]), fr (by simp [frees]), fr (by simp [frees]), fr (by simp [frees]), fr (by simp [frees]), fr (by simp [frees])⟩
  have TD : TxtD mg := ⟨fr (by simp [frees]), fr (by simp [frees]), fr (by simp [frees]), fr (by simp [frees]), fr (by simp [frees]), fr (by simp [frees]), fr (by simp [frees])⟩
  have TF : TxtF mg := ⟨fr (by simp [frees]), fr (by simp [frees]), fr (by simp [frees]), fr (by simp [frees])⟩
  have en : mg "enumerate" = none := fr (by simp [frees])
  have so : mg "sorted" = none := fr (by simp [frees])
  have se : mg "set" = none := fr (by simp [frees])
  have li : mg "list" = none := fr (by simp [frees])
  have mx : mg "max" = none := fr (by simp [frees])
  have mi : mg "min" = none := fr (by simp [frees])
  have rp : mg "repr" = none := fr (by simp [frees])
  have rg : mg "range" = none := fr (by simp [frees])
  have le : mg "len" = none := fr (by simp [frees])
  have zi : mg "zip" = none := fr (by simp [frees])
  have di : mg "dict" = none := fr (by simp [frees])
  have su : mg "sum" = none := fr (by simp [frees])
  have an : mg "any" = none := fr (by simp [frees])
  have spr : PySem.W.nsIn K mainGlobals "super" = some none := He.eqO_ok (s.fact (mem_free (by simp [frees])))
  obtain ⟨i1, i2⟩ := s.init
  have gBadStays : mg "BadStays" = some (.ref (He.ga K "BadStays")) := He.glo_ok X G (s.fact (mem_fa1 (by simp [fa1])))
  have EStays : ErrK P K mg "BadStays" (He.ga K "BadStays") (He.ma K (He.ga K "BadStays") "__init__") "index" := errK_of hP D.eStays i1 iniStays bdsStays (He.noat_ok (s.fact (mem_fa1 (by simp [fa1])))) D.opq spr gBadStays ⟨rfl, rfl, rfl, rfl⟩
  have gBadMany : mg "BadMany" = some (.ref (He.ga K "BadMany")) := He.glo_ok X G (s.fact (mem_fa1 (by simp [fa1])))
  have EMany : ErrK P K mg "BadMany" (He.ga K "BadMany") (He.ma K (He.ga K "BadMany") "__init__") "many" := errK_of hP D.eMany i2 iniMany bdsMany (He.noat_ok (s.fact (mem_fa1 (by simp [fa1])))) D.opq spr gBadMany ⟨rfl, rfl, rfl, rfl⟩
  obtain ⟨gInt, fdInt, FInt⟩ := s.fn X G (x := "is_integer") (i := 1) (by simp [fns, fns0])
  have bInt := FInt.binds (ps := ["thing"]) (fun _ _ _ _ _ _ us hl => match us, hl with | [_], _ => rfl)
  obtain ⟨gNum, fdNum, FNum⟩ := s.fn X G (x := "is_number") (i := 2) (by simp [fns, fns0])
  have bNum := FNum.binds (ps := ["thing"]) (fun _ _ _ _ _ _ us hl => match us, hl with | [_], _ => rfl)
  obtain ⟨gOne, fdOne, FOne⟩ := s.fn X G (x := "is_from_one") (i := 3) (by simp [fns, fns0])
  have bOne := FOne.binds (ps := ["thing"]) (fun _ _ _ _ _ _ us hl => match us, hl with | [_], _ => rfl)
  obtain ⟨gList, fdList, FList⟩ := s.fn X G (x := "is_list") (i := 4) (by simp [fns, fns0])
  have bList := FList.binds (ps := ["thing"]) (fun _ _ _ _ _ _ us hl => match us, hl with | [_], _ => rfl)
  obtain ⟨gFirst, fdFirst, FFirst⟩ := s.fn X G (x := "first_wrong") (i := 5) (by simp [fns, fns0])
  have bFirst := FFirst.binds (ps := ["things", "is_right"]) (fun _ _ _ _ _ _ us hl => match us, hl with | [_, _], _ => rfl)
  obtain ⟨gCounts, fdCounts, FCounts⟩ := s.fn X G (x := "counts_at_begins") (i := 12) (by simp [fns, fns0])
  have bCounts := FCounts.binds (ps := ["spans"]) (fun _ _ _ _ _ _ us hl => match us, hl with | [_], _ => rfl)
  obtain ⟨gMost, fdMost, FMost⟩ := s.fn X G (x := "most_at_once") (i := 13) (by simp [fns, fns0])
  have bMost := FMost.binds (ps := ["spans"]) (fun _ _ _ _ _ _ us hl => match us, hl with | [_], _ => rfl)
  obtain ⟨gAbove, fdAbove, FAbove⟩ := s.fn X G (x := "first_day_above") (i := 14) (by simp [fns, fns0])
  have bAbove := FAbove.binds (ps := ["spans", "limit"]) (fun _ _ _ _ _ _ us hl => match us, hl with | [_, _], _ => rfl)
  obtain ⟨gIsStay, fdIsStay, FIsStay⟩ := s.fn X G (x := "is_stay") (i := 16) (by simp [fns, fns0])
  have bIsStay := FIsStay.binds (ps := ["thing"]) (fun _ _ _ _ _ _ us hl => match us, hl with | [_], _ => rfl)
  obtain ⟨gTold, fdTold, FTold⟩ := s.fn X G (x := "told_stays") (i := 17) (by simp [fns, fns0])
  have bTold := FTold.binds (ps := ["stays"]) (fun _ _ _ _ _ _ us hl => match us, hl with | [_], _ => rfl)
  obtain ⟨gCkMany, fdCkMany, FCkMany⟩ := s.fn X G (x := "check_many") (i := 18) (by simp [fns, fns0])
  have bCkMany := FCkMany.binds (ps := ["many"]) (fun _ _ _ _ _ _ us hl => match us, hl with | [_], _ => rfl)
  obtain ⟨gBound, fdBound, FBound⟩ := s.fn X G (x := "bound_spans") (i := 19) (by simp [fns, fns0])
  have bBound := FBound.binds (ps := ["stays"]) (fun _ _ _ _ _ _ us hl => match us, hl with | [_], _ => rfl)
  obtain ⟨gNums, fdNums, FNums⟩ := s.fn X G (x := "numbers_told") (i := 20) (by simp [fns, fns0])
  have bNums := FNums.binds (ps := ["stays", "many", "thing"]) (fun _ _ _ _ _ _ us hl => match us, hl with | [_, _, _], _ => rfl)
  obtain ⟨gLots, fdLots, FLots⟩ := s.fn X G (x := "lots_by_number") (i := 21) (by simp [fns, fns0])
  have bLots := FLots.binds (ps := ["stays", "numbers"]) (fun _ _ _ _ _ _ us hl => match us, hl with | [_, _], _ => rfl)
  obtain ⟨gIsG, fdIsG, FIsG⟩ := s.fn X G (x := "is_giving") (i := 22) (by simp [fns, fns0])
  have bIsG := FIsG.binds (ps := ["stays", "many", "thing"]) (fun _ _ _ _ _ _ us hl => match us, hl with | [_, _, _], _ => rfl)
  obtain ⟨gFull, fdFull, FFull⟩ := s.fn X G (x := "full_day") (i := 23) (by simp [fns, fns0])
  have bFull := FFull.binds (ps := ["stays", "many"]) (fun _ _ _ _ _ _ us hl => match us, hl with | [_, _], _ => rfl)
  obtain ⟨gCkOne, fdCkOne, FCkOne⟩ := s.fn X G (x := "check_from_one") (i := 25) (by simp [fns, fns0])
  have bCkOne := FCkOne.binds (ps := ["many"]) (fun _ _ _ _ _ _ us hl => match us, hl with | [_], _ => rfl)
  obtain ⟨gLying, fdLying, FLying⟩ := s.fn X G (x := "lying_spans") (i := 27) (by simp [fns, fns0])
  have bLying := FLying.binds (ps := ["stays"]) (fun _ _ _ _ _ _ us hl => match us, hl with | [_], _ => rfl)
  obtain ⟨gShare, fdShare, FShare⟩ := s.fn X G (x := "can_share") (i := 28) (by simp [fns, fns0])
  have bShare := FShare.binds (ps := ["stays", "many", "marks"]) (fun _ _ _ _ _ _ us hl => match us, hl with | [_, _, _], _ => rfl)
  obtain ⟨gIsMG, fdIsMG, FIsMG⟩ := s.fn X G (x := "is_marked_giving") (i := 29) (by simp [fns, fns0])
  have bIsMG := FIsMG.binds (ps := ["stays", "many", "marks", "thing"]) (fun _ _ _ _ _ _ us hl => match us, hl with | [_, _, _, _], _ => rfl)
  obtain ⟨gGoes, fdGoes, FGoes⟩ := s.fn X G (x := "goes_on") (i := 30) (by simp [fns, fns0])
  have bGoes := FGoes.binds (ps := ["stays", "numbers", "number", "marks"]) (fun _ _ _ _ _ _ us hl => match us, hl with | [_, _, _, _], _ => rfl)
  obtain ⟨gFirstM, fdFirstM, FFirstM⟩ := s.fn X G (x := "first_marked_giving") (i := 31) (by simp [fns, fns0])
  have bFirstM := FFirstM.binds (ps := ["stays", "many", "marks"]) (fun _ _ _ _ _ _ us hl => match us, hl with | [_, _, _], _ => rfl)
  obtain ⟨gMGiv, fdMGiv, FMGiv⟩ := s.fn X G (x := "marked_giving") (i := 32) (by simp [fns, fns0])
  have bMGiv := FMGiv.binds (ps := ["stays", "many", "marks"]) (fun _ _ _ _ _ _ us hl => match us, hl with | [_, _, _], _ => rfl)
  obtain ⟨gMFor, fdMFor, FMFor⟩ := s.fn X G (x := "marks_for") (i := 33) (by simp [fns, fns0])
  have bMFor := FMFor.binds (ps := ["stays", "many"]) (fun _ _ _ _ _ _ us hl => match us, hl with | [_, _], _ => rfl)
  obtain ⟨gLStream, fdLStream, FLStream⟩ := s.fn X G (x := "_law_stream") (i := 35) (by simp [fns, fns1])
  have bLStream := FLStream.binds (ps := ["script", "k"]) (fun _ _ _ _ _ _ us hl => match us, hl with | [_, _], _ => rfl)
  obtain ⟨gDraw, fdDraw, FDraw⟩ := s.fn X G (x := "_law_draw") (i := 36) (by simp [fns, fns1])
  have bDraw := FDraw.binds (ps := ["stream", "many"]) (fun _ _ _ _ _ _ us hl => match us, hl with | [_, _], _ => rfl)
  obtain ⟨gPick, fdPick, FPick⟩ := s.fn X G (x := "_law_pick") (i := 37) (by simp [fns, fns1])
  have bPick := FPick.binds (ps := ["stream", "things"]) (fun _ _ _ _ _ _ us hl => match us, hl with | [_, _], _ => rfl)
  obtain ⟨gSame, fdSame, FSame⟩ := s.fn X G (x := "_law_same") (i := 38) (by simp [fns, fns1])
  have bSame := FSame.binds (ps := ["found", "due"]) (fun _ _ _ _ _ _ us hl => match us, hl with | [_, _], _ => rfl)
  obtain ⟨gAsL, fdAsL, FAsL⟩ := s.fn X G (x := "_law_as_lists") (i := 39) (by simp [fns, fns1])
  have bAsL := FAsL.binds (ps := ["stream", "thing"]) (fun _ _ _ _ _ _ us hl => match us, hl with | [_, _], _ => rfl)
  obtain ⟨gClose, fdClose, FClose⟩ := s.fn X G (x := "_law_close") (i := 40) (by simp [fns, fns1])
  have bClose := FClose.binds (ps := ["stream"]) (fun _ _ _ _ _ _ us hl => match us, hl with | [_], _ => rfl)
  obtain ⟨gLLast, fdLLast, FLLast⟩ := s.fn X G (x := "_law_last") (i := 41) (by simp [fns, fns1])
  have bLLast := FLLast.binds (ps := ["stay"]) (fun _ _ _ _ _ _ us hl => match us, hl with | [_], _ => rfl)
  obtain ⟨gOdd, fdOdd, FOdd⟩ := s.fn X G (x := "_law_odd_stay") (i := 42) (by simp [fns, fns1])
  have bOdd := FOdd.binds (ps := ["stream"]) (fun _ _ _ _ _ _ us hl => match us, hl with | [_], _ => rfl)
  obtain ⟨gLets, fdLets, FLets⟩ := s.fn X G (x := "_law_lets") (i := 43) (by simp [fns, fns1])
  have bLets := FLets.binds (ps := ["stays", "marks", "given", "at", "number"]) (fun _ _ _ _ _ _ us hl => match us, hl with | [_, _, _, _, _], _ => rfl)
  obtain ⟨gLFirst, fdLFirst, FLFirst⟩ := s.fn X G (x := "_law_first") (i := 44) (by simp [fns, fns1])
  have bLFirst := FLFirst.binds (ps := ["stays", "many", "marks", "given"]) (fun _ _ _ _ _ _ us hl => match us, hl with | [_, _, _, _], _ => rfl)
  obtain ⟨gLIM, fdLIM, FLIM⟩ := s.fn X G (x := "_law_is_given") (i := 45) (by simp [fns, fns1])
  have bLIM := FLIM.binds (ps := ["stays", "many", "marks", "thing"]) (fun _ _ _ _ _ _ us hl => match us, hl with | [_, _, _, _], _ => rfl)
  obtain ⟨gThings, fdThings, FThings⟩ := s.fn X G (x := "_law_things") (i := 46) (by simp [fns, fns1])
  have bThings := FThings.binds (ps := ["stream", "stays", "many", "given"]) (fun _ _ _ _ _ _ us hl => match us, hl with | [_, _, _, _], _ => rfl)
  obtain ⟨gMet, fdMet, FMet⟩ := s.fn X G (x := "_law_met") (i := 47) (by simp [fns, fns1])
  have bMet := FMet.binds (ps := ["ask"]) (fun _ _ _ _ _ _ us hl => match us, hl with | [_], _ => rfl)
  obtain ⟨gRR, fdRR0, FRR0⟩ := s.fn X G (x := "_law_refused_right") (i := 48) (by simp [fns, fns1])
  obtain ⟨fdRR, FRR⟩ := s.fnC (x := "_law_refused_right") (i := 48) (by simp [fns, fns1])
  have bRR := FRR.binds (ps := ["stream", "stays"]) fun _ _ _ _ _ us hl => match us, hl with | [_, _], _ => rfl
  have mTRR : ((pRR K).2, qRef) ∈ TTs K := (List.mem_cons_self ..)
  have hTRR : ∀ y ∈ TTs K, y.1 = (pRR K).2 → y.2 = qRef := fun y m e => by
    have z := List.mem_singleton.mp m
    rw [z]
  have GDraw : FnOk P w K mg base CX0 1 _ fdDraw ["stream", "many"] spDraw := ok_draw FDraw TD
  have GPick : FnOk P w K mg base CX0 2 _ fdPick ["stream", "things"] (spPick K) := ok_pick FPick TD GDraw gDraw FDraw.kp bDraw
  have GLStream : FnOk P w K mg base CX0 1 _ fdLStream ["script", "k"] (spStream K) := ok_stream FLStream TD
  have GClose : FnOk P w K mg base CX0 3 _ fdClose ["stream"] spClose := ok_close FClose TD GDraw gDraw FDraw.kp bDraw GPick gPick FPick.kp bPick
  have GAsL : FnOk P w K mg base CX0 3 _ fdAsL ["stream", "thing"] spAs2 := ok_asL FAsL gAsL bAsL T GDraw gDraw FDraw.kp bDraw
  have GList : FnOk P w K mg base CX0 1 _ fdList ["thing"] (spAsk K fSeq) := ok_isList FList T
  have GNum : FnOk P w K mg base CX0 2 _ fdNum ["thing"] (spAsk K (numFrom 0)) := ok_isNum FNum FInt gInt T
  have GOne : FnOk P w K mg base CX0 2 _ fdOne ["thing"] (spAsk K (numFrom 1)) := ok_isOne FOne FInt gInt T
  have GIsStay : FnOk P w K mg base CX0 3 _ fdIsStay ["thing"] (spIsStay K) := ok_isStay FIsStay T GList gList FList.kp bList GNum gNum FNum.kp bNum
  have GFirst : FnOk P w K mg base CX0 4 _ fdFirst ["things", "is_right"] (spFirst K (He.ga K "is_stay")) := ok_first FFirst T en GList gList FList.kp bList GIsStay FIsStay.kp bIsStay
  have GTold : FnOk P w K mg base (L2.CX P w) 5 _ fdTold ["stays"] (spTold K (He.ga K "BadStays")) := ok_told FTold T gIsStay GFirst gFirst FFirst.kp bFirst EStays htop
  have GCkMany : FnOk P w K mg base (L2.CX P w) 3 _ fdCkMany ["many"] (spNum K (He.ga K "BadMany") "many") := ok_many FCkMany GNum gNum FNum.kp bNum EMany htop
  have GCkOne : FnOk P w K mg base (L2.CX P w) 3 _ fdCkOne ["many"] (spOne K (He.ga K "BadMany")) := ok_one FCkOne GOne gOne FOne.kp bOne EMany htop
  have GCounts : FnOk P w K mg base CX0 1 _ fdCounts ["spans"] spCounts := ok_counts FCounts en so
  have GMost : FnOk P w K mg base CX0 2 _ fdMost ["spans"] spMost := ok_most FMost mx GCounts gCounts FCounts.kp bCounts
  have GBound : FnOk P w K mg base CX0 1 _ fdBound ["stays"] spBound := ok_bound FBound
  have GSame5 : FnOk P w K mg base CX0 5 _ fdSame ["found", "due"] (spSame (SameV K 4)) := ok_same FSame gSame T TF bSame 4
  have GSame : FnOk P w K mg base CX0 4 _ fdSame ["found", "due"] (spSame (SameV K 3)) := ok_same FSame gSame T TF bSame 3
  have GLLast : FnOk P w K mg base CX0 1 _ fdLLast ["stay"] spLast := ok_last FLLast
  have GOdd : FnOk P w K mg base CX0 3 _ fdOdd ["stream"] (spOdd K) := ok_odd FOdd GPick gPick FPick.kp bPick
  have GAbove : FnOk P w K mg base CX0 2 _ fdAbove ["spans", "limit"] spAbove := ok_above FAbove GCounts gCounts FCounts.kp bCounts
  have GFull : FnOk P w K mg base (L2.CX P w) 6 _ fdFull ["stays", "many"] (spFull K (He.ga K "BadStays") (He.ga K "BadMany")) := ok_full FFull GAbove gAbove FAbove.kp bAbove GBound gBound FBound.kp bBound GCkMany gCkMany FCkMany.kp bCkMany GTold gTold FTold.kp bTold
  have GNums : FnOk P w K mg base CX0 3 _ fdNums ["stays", "many", "thing"] (spNums K) := ok_nums FNums T GList gList FList.kp bList GNum gNum FNum.kp bNum
  have GLots : FnOk P w K mg base CX0 1 _ fdLots ["stays", "numbers"] spLots := ok_lots FLots T zi
  have GIsG : FnOk P w K mg base (L2.CX P w) 6 _ fdIsG ["stays", "many", "thing"] (spIsG K (He.ga K "BadStays") (He.ga K "BadMany")) := ok_isG FIsG T GNums gNums FNums.kp bNums GLots gLots FLots.kp bLots GBound gBound FBound.kp bBound GMost gMost FMost.kp bMost GCkMany gCkMany FCkMany.kp bCkMany GTold gTold FTold.kp bTold
  have GLying : FnOk P w K mg base CX0 1 _ fdLying ["stays"] spLying := ok_lying FLying
  have GShare : FnOk P w K mg base CX0 3 _ fdShare ["stays", "many", "marks"] spShare := ok_share FShare GLying gLying FLying.kp bLying GBound gBound FBound.kp bBound GMost gMost FMost.kp bMost
  have GIsMG : FnOk P w K mg base (L2.CX P w) 6 _ fdIsMG ["stays", "many", "marks", "thing"] (spMG K (He.ga K "BadStays") (He.ga K "BadMany")) := ok_isMG FIsMG T GNums gNums FNums.kp bNums GLots gLots FLots.kp bLots GShare gShare FShare.kp bShare GCkOne gCkOne FCkOne.kp bCkOne GTold gTold FTold.kp bTold
  have GGoes : FnOk P w K mg base CX0 4 _ fdGoes ["stays", "numbers", "number", "marks"] spGoes := ok_goes FGoes T zi GShare gShare FShare.kp bShare
  have GFirstM : FnOk P w K mg base CX0 5 _ fdFirstM ["stays", "many", "marks"] spFirstM := ok_firstM FFirstM T mx mi GShare gShare FShare.kp bShare GGoes gGoes FGoes.kp bGoes
  have GMGiv : FnOk P w K mg base (L2.CX P w) 6 _ fdMGiv ["stays", "many", "marks"] (spMGiv K (He.ga K "BadStays") (He.ga K "BadMany")) := ok_mgiv FMGiv GFirstM gFirstM FFirstM.kp bFirstM GCkOne gCkOne FCkOne.kp bCkOne GTold gTold FTold.kp bTold
  have GMFor : FnOk P w K mg base (L2.CX P w) 6 _ fdMFor ["stays", "many"] (spMFor K (He.ga K "BadStays") (He.ga K "BadMany")) := ok_mfor FMFor T rg mx GFirstM gFirstM FFirstM.kp bFirstM GCkOne gCkOne FCkOne.kp bCkOne GTold gTold FTold.kp bTold
  have GLets : FnOk P w K mg base CX0 2 _ fdLets ["stays", "marks", "given", "at", "number"] spLets := ok_lets FLets T rg an mx mi GLLast gLLast FLLast.kp bLLast
  have GLFirst : FnOk P w K mg base CX0 11 _ fdLFirst ["stays", "many", "marks", "given"] (spLFirst 9) := ok_lfirst FLFirst gLFirst T rg GLets gLets FLets.kp bLets bLFirst 9
  have GLIM : FnOk P w K mg base CX0 3 _ fdLIM ["stays", "many", "marks", "thing"] (spLIM K) := ok_lim FLIM T rg GLets gLets FLets.kp bLets
  have GThings : FnOk P w K mg base CX0 3 _ fdThings ["stream", "stays", "many", "given"] (spThings K) := ok_things FThings T rg GDraw gDraw FDraw.kp bDraw GPick gPick FPick.kp bPick
  have ME : MetK K mg (cls5 K) := ⟨gBadStays, D.eStays.xf, He.noat_ok (s.fact (mem_fa1 (by simp [fa1]))), gBadMany, D.eMany.xf, He.noat_ok (s.fact (mem_fa1 (by simp [fa1]))), He.exm_ok (s.fact (mem_fa1 (by simp [fa1]))), He.exm_ok (s.fact (mem_fa1 (by simp [fa1]))), He.exm_ok (s.fact (mem_fa1 (by simp [fa1])))⟩
  obtain ⟨oLast, lLast, cLast⟩ := D.last
  have hsys : ∃ o, base.get? sysModules = some o := by
    obtain ⟨o, e⟩ := D.sys
    exact ⟨o, X _ _ e⟩
  have GRR : FnOk P w K mg base CX0 9 _ fdRR ["stream", "stays"] (spRef (TTs K)) := ok_refR (C := cls5 K) FRR T GDraw gDraw FDraw.kp bDraw GPick gPick FPick.kp bPick GOdd gOdd FOdd.kp bOdd GSame5 gSame FSame.kp bSame FMet bMet gMet ME GMGiv gMGiv FMGiv.kp bMGiv GIsMG gIsMG FIsMG.kp bIsMG GMFor gMFor FMFor.kp bMFor gLLast lLast cLast TBRR hTRR mTRR
  have qG : KBn K fdMGiv ["stays", "many", "marks"] 0 ["marks", "many", "stays"] (fun _ ws => ws.reverse) (fun _ zs => zs.reverse) := Fun.rev FMGiv fun _ _ _ _ _ _ ws hl => bind_mgiv ws hl
  have qM : KBn K fdIsMG ["stays", "many", "marks", "thing"] 0 ["thing", "marks", "many", "stays"] (fun _ ws => ws.reverse) (fun _ zs => zs.reverse) := Fun.rev FIsMG fun _ _ _ _ _ _ ws hl => bind_isMG ws hl
  have qN : KBn K fdMFor ["stays", "many"] 0 ["many", "stays"] (fun _ ws => ws.reverse) (fun _ zs => zs.reverse) := Fun.rev FMFor fun _ _ _ _ _ _ ws hl => bind_mfor ws hl
  exact law_body (C := cls5 K) T TD rp hsys GLStream gLStream FLStream.kp bLStream GDraw gDraw FDraw.kp bDraw GClose gClose FClose.kp bClose GAsL gAsL FAsL.kp bAsL GRR gRR FRR.kp bRR GSame gSame FSame.kp bSame GLFirst gLFirst FLFirst.kp bLFirst GLIM gLIM FLIM.kp bLIM GThings gThings FThings.kp bThings GMGiv gMGiv FMGiv.kp bMGiv GFull gFull FFull.kp bFull GIsG gIsG FIsG.kp bIsG GIsMG gIsMG FIsMG.kp GMFor gMFor FMFor.kp qG qM qN hS hn tabs hr
end
end OB
namespace OB
open PySem PySem.Spec PyProof.Rows L2 LamX
/-- the law, called by the outermost caller behind the top -/
theorem law_call0 {P : Program} {w : World} {K : PySem.W.Frag} {mg mb : Str → Option Value} {fa a : Addr} {s₁ : Shared} {vs : List Value} {ns : List Int}
    (hP : file = P.main.file) (htop : (P.main.scope.names.lookup ("super" : Str)).isSome = false) (KX : K.In s₁.heap) (S : SaysK w s₁.heap K) (hmg : mg "law" = some (.ref fa))
    (nG : s₁.heap.Ns mainGlobals mg) (nB : s₁.heap.Ns builtinsNs mb) (hB : ∀ x : Str, x ≠ "__name__" → mb x = bootBuiltins x) (lim : s₁.heap.NoLimit) (ge : s₁.gens = #[])
    (bm : ∃ (m : Addr) (ob : Obj), mg "__builtins__" = some (.ref m) ∧ m ≠ builtinsNs ∧ s₁.heap.get? m = some ob ∧ ob.cls = .type "module" ∧ ob.dict = some builtinsNs ∧ ob.data = .plain)
    (ga : s₁.heap.get? a = some { cls := .type "list", data := .seq vs.toArray }) (iv : IntsAre vs ns) (hl : ns.length ≤ 63) :
    codeAny (model P w) callerA (.call (.ref fa) ⟨[.ref a], []⟩) (fun r s' => r = .ok (.ret (.bool true)) ∧ OldK s₁.heap s'.heap ∧ s'.os = s₁.os ∧ AllBare s'.gens) s₁ := by
  have mLaw : (("law" : Str), 49) ∈ fns := by simp [fns, fns1]
  have mt0 : (("_law_refused_right" : Str), (none : Option Str)) ∈ tfs := (List.mem_cons_self ..)
  have eL := He.glo_ok KX nG (S.fact (mem_fa0 mLaw))
  obtain ⟨oc, od, osl, kV, doc, pm, an, cdv, ct, lk, hcd⟩ := S.def_ (d := dFn ("law", 49)) (List.mem_append_left _ (List.mem_map.mpr ⟨_, mLaw, rfl⟩))
  have ef : fa = He.ga K "law" := Value.ref.inj (Option.some.inj (hmg.symm.trans eL))
  subst ef
  have each : ∀ {Q : Addr × Addr → Prop}, (∀ x : He.Defn, x ∈ tfs → Q (He.cT K x)) → ∀ p ∈ [pRR K], Q p := fun h p m => by
    rw [List.mem_singleton.mp m]
    exact h _ mt0
  refine law_at (cs := [pRR K]) (K := K) KX nG nB hB lim ge (each fun x m => S.empty _ m) (each fun x m => S.out _ m) (each fun x m => PySem.W.codeHd_of_K KX (S.hd _ m)) bm ga iv (Nat.le_trans hl (by decide)) fun base H KB G TB hT hS e0 => ?_
  have tabs0 : Tabs (TTs K) H := fun p m => by
    rw [List.mem_singleton.mp m]
    exact TabS.nil (hT _ (List.mem_cons_self ..))
  refine run_ofS (CX := CX0) (k := 11) (N := Nlw) (ps := ["script"]) (us := [.ref a]) (vs := [.ref a]) (Q := fun v _ => v = .bl true) (E := fun _ _ _ => False) lk hcd scLaw room10 e0 (.of_eq rfl) (.cons rfl .nil) rfl fun hr => ?_
  obtain ⟨t, ht1, ht2⟩ := law_run (P := P) (w := w) hP htop S KB G (TB _ (List.mem_cons_self ..)) (fa := He.ga K "law") (cdv := cdv) (s₁ := s₁) hS (by omega) tabs0 hr
  exact ⟨t, ht1.nox, ht2⟩
end OB
namespace OB
open PySem PySem.W PySem.Calls PyProof.Rows
abbrev R : OpenRow := OpenLaw.row PySem.Challenge.rw_oldaddress_k69_whole_marked_givings
abbrev qv : Program := view R.prog [49]
def names0 : List PySem.Str := ["__name__", "is_integer", "is_number", "is_from_one", "is_list", "first_wrong", "counts_at_begins", "most_at_once", "first_day_above", "is_stay", "told_stays", "check_many", "bound_spans", "numbers_told", "lots_by_number", "is_giving", "full_day", "check_from_one", "lying_spans", "can_share", "is_marked_giving"]
def names1 : List PySem.Str := ["goes_on", "first_marked_giving", "marked_giving", "marks_for", "AddressError", "BadStays", "BadMany", "_law_stream", "_law_draw", "_law_pick", "_law_same", "_law_as_lists", "_law_close", "_law_last", "_law_odd_stay", "_law_lets", "_law_first", "_law_is_given", "_law_things", "_law_met", "_law_refused_right"]
def names : List PySem.Str := names0 ++ names1
def RunL : Prop := ∀ (w : World) (os : OsState), (HandSHeadRun.endF (HandSHeadRun.stepQ (HandSHeadRun.denQ HandSHeadRun.tabQ) R.prog w) 20000 R.prog w os).map (fun s => HandSHeadRun.looksF R.prog (boot_heap w.params) s.abs) = some true
def RunP {β : Type} (ob : SharedT → β) (v : World → β) : Prop := ∀ (w : World) (os : OsState), (HandSHeadRun.endF (HandSHeadRun.stepQ (HandSHeadRun.denQ HandSHeadRun.tabQ) R.prog w) 20000 R.prog w os).map ob = some (v w)
theorem both {β : Type} {ob : SharedT → β} {v : World → β} (h0 : ∀ (w : World) (os : OsState), (HandSHeadRun.endF (HandSHeadRun.stepQ (HandSHeadRun.denQ HandSHeadRun.tabQ) R.prog (w.withFollow "special-get-raises" false)) 20000 R.prog (w.withFollow "special-get-raises" false) os).map ob = some (v (w.withFollow "special-get-raises" false)))
    (h1 : ∀ (w : World) (os : OsState), (HandSHeadRun.endF (HandSHeadRun.stepQ (HandSHeadRun.denQ HandSHeadRun.tabQ) R.prog (w.withFollow "special-get-raises" true)) 20000 R.prog (w.withFollow "special-get-raises" true) os).map ob = some (v (w.withFollow "special-get-raises" true))) : RunP ob v := fun w =>
  byRow2 "special-get-raises" (P := fun w => ∀ os : OsState, (HandSHeadRun.endF (HandSHeadRun.stepQ (HandSHeadRun.denQ HandSHeadRun.tabQ) R.prog w) 20000 R.prog w os).map ob = some (v w)) h0 h1 w
end OB
namespace OB
open PySem PySem.W PySem.Calls PyProof.Rows
theorem runL0 (w : World) (os : OsState) : (HandSHeadRun.endF (HandSHeadRun.stepQ (HandSHeadRun.denQ HandSHeadRun.tabQ) R.prog (w.withFollow "special-get-raises" false)) 20000 R.prog (w.withFollow "special-get-raises" false) os).map (fun s => HandSHeadRun.looksF R.prog (boot_heap (w.withFollow "special-get-raises" false).params) s.abs) = some true := by
  kernel_rfl
theorem runL1 (w : World) (os : OsState) : (HandSHeadRun.endF (HandSHeadRun.stepQ (HandSHeadRun.denQ HandSHeadRun.tabQ) R.prog (w.withFollow "special-get-raises" true)) 20000 R.prog (w.withFollow "special-get-raises" true) os).map (fun s => HandSHeadRun.looksF R.prog (boot_heap (w.withFollow "special-get-raises" true).params) s.abs) = some true := by
  kernel_rfl
theorem runL : RunL := fun w => byRow2 "special-get-raises" (P := fun w => ∀ os : OsState, (HandSHeadRun.endF (HandSHeadRun.stepQ (HandSHeadRun.denQ HandSHeadRun.tabQ) R.prog w) 20000 R.prog w os).map (fun s => HandSHeadRun.looksF R.prog (boot_heap w.params) s.abs) = some true) runL0 runL1 w
end OB
namespace OB
open PySem PySem.W PySem.Calls PyProof.Rows
theorem runB : RunP (fun s => lkB (HandSHeadRun.getT s)) (fun _ => true) := both (fun w os => by kernel_rfl) (fun w os => by kernel_rfl)
end OB
namespace OB
open PySem PySem.W PySem.Calls PyProof.Rows
theorem runA : RunP (fun s => lkA (HandSHeadRun.getT s)) (fun _ => vA) := both (fun w os => by kernel_rfl) (fun w os => by kernel_rfl)
end OB
namespace OB
open PySem PySem.W PySem.Calls PyProof.Rows
theorem runC : RunP (fun s => lkC (HandSHeadRun.getT s)) (fun _ => vC) := both (fun w os => by kernel_rfl) (fun w os => by kernel_rfl)
end OB
namespace OB
open PySem PySem.W PySem.Calls PyProof.Rows
theorem runD : RunP (fun s => lkD (HandSHeadRun.getT s)) (fun _ => true) := both (fun w os => by kernel_rfl) (fun w os => by kernel_rfl)
end OB
namespace OB
open PySem PySem.W PySem.Calls PyProof.Rows
theorem runS : RunP (fun s => HandSHeadRun.seenQ qv names (importedModules R.prog.main.body) (fun s => xlAt qv [] s && recOk R.toRowW.records s) s.abs) (fun _ => openGood qv names) := both (fun w os => by kernel_rfl) (fun w os => by kernel_rfl)
end OB
namespace OB
open PySem PySem.W PySem.Calls PyProof.Rows
def hk : Hook where
  α := LookT
  obs s := lk s.heap.get?
  val w := vl w
  says w h := ∃ K : Frag, K.In h ∧ SaysK w h K
  of _ _ e := says_of e
  keeps _ _ _ s k := by
    obtain ⟨K, X, t⟩ := s
    exact ⟨K, PySem.W.Frag.In.keeps X k, t.keeps k⟩
def ob (s : SharedT) : LookT := (lkA (HandSHeadRun.getT s), (lkB (HandSHeadRun.getT s), (lkC (HandSHeadRun.getT s), lkD (HandSHeadRun.getT s))))
theorem ob_eq (s : SharedT) : ob s = hk.obs s.abs := by
  have e : HandSHeadRun.getT s = s.abs.heap.get? := funext (HandSHeadRun.getT_eq s)
  show (lkA (HandSHeadRun.getT s), (lkB (HandSHeadRun.getT s), (lkC (HandSHeadRun.getT s), lkD (HandSHeadRun.getT s)))) = _
  rw [e] <;> rfl
theorem map_pair {S A B : Type} {o : Option S} {f : S → A} {g : S → B} {a : A} {b : B} (h1 : o.map f = some a) (h2 : o.map g = some b) : o.map (fun s => (f s, g s)) = some (a, b) := by
  cases o with
  | none => cases h1
  | some s =>
    obtain rfl := Option.some.inj h1
    obtain rfl := Option.some.inj h2
    rfl
theorem run (w : World) : HandSHeadRun.RunEq R qv hk ob 20000 names w := fun os => map_pair (runL w os) (map_pair (runS w os) (map_pair (runA w os) (map_pair (runB w os) (map_pair (runC w os) (runD w os)))))
theorem file_ok : file = PySem.Challenge.rw_oldaddress_k69_whole_marked_givings.prog.main.file := by kernel_rfl
theorem top_ok : (PySem.Challenge.rw_oldaddress_k69_whole_marked_givings.prog.main.scope.names.lookup ("super" : PySem.Str)).isSome = false := by kernel_rfl
end OB
open PySem PySem.W PySem.Calls PyProof.Rows
theorem PySem.Challenge.cw_oldaddress_k69_whole_marked_givings_holds : PySem.Challenge.rw_oldaddress_k69_whole_marked_givings.Holds := by
  w_on; o_law
  refine HandSHeadRun.head_any (r := OpenLaw.row PySem.Challenge.rw_oldaddress_k69_whole_marked_givings) (q := view (OpenLaw.row PySem.Challenge.rw_oldaddress_k69_whole_marked_givings).prog [49]) (H := OB.hk) (ob := OB.ob) (M := 20000) (loose := OB.names) (d := HandSHeadRun.topDef (OpenLaw.row PySem.Challenge.rw_oldaddress_k69_whole_marked_givings).prog 49) (kwd := []) OB.ob_eq
    (by kernel_rfl) (fun s => by kernel_rfl) OB.run (by kernel_rfl) (by kernel_rfl) (by kernel_rfl) (by rfl) (by first | assumption | decide +kernel) (by decide +kernel) ⟨rfl, rfl, rfl, rfl, rfl, by decide +kernel⟩ ?hw ?hc
  case hw => w_witness2
  case hc =>
    refine Att.attach_callB (l := PySem.Challenge.rw_oldaddress_k69_whole_marked_givings) (n := 63) rfl (by kernel_rfl) fun w s₀ s₁ mg mb fa o pm cd doc a vs ns G Y ho hd hcd hmg0 hobj hints hlen hbits hg => ?_
    obtain ⟨K, KX, S⟩ := Y
    have hmg : mg ("law" : PySem.Str) = some (.ref fa) := by
      have e : (HandSHeadRun.topDef (OpenLaw.row PySem.Challenge.rw_oldaddress_k69_whole_marked_givings).prog 49).name = ("law" : PySem.Str) := by kernel_rfl
      rw [← e]
      exact hmg0
    exact OB.law_call0 OB.file_ok OB.top_ok KX S hmg G.T.g G.T.b G.T.builtins G.T.nolimit hg G.T.bmain hobj hints (Nat.le_trans hlen (by decide))

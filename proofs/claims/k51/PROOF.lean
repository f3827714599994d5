import PyProof.Rows.All
import Wide.All
import OpenK.AllK
import Wide.FinOn
import KE.KExcSuper
import HandS.ForMost
import HandS.Exc
import HandS.ExcInit
import HandS.Wide
import HandS.Walk
import HandS.IsInst
import PyProof.IsiBase
import PyProof.IsiStr
import HandS.ForExc
import KE.GoesNew
import HandS.Iter
import HandS.Zip
import HandS.WordsExc
import HandS.OwnEq
import PyProof.InstEq
import HandS.Strs
import HandS.More
import HandS.Dict
import HandS.ListItems
import HandS.DictTup
import HandS.NoneIn
import KE.KDictDisplayH
import HandS.Lambda
import HandS.ExcField
import HandS.CallLocal
import HandS.ExcOwn
import PyProof.ReprRoads
import PyProof.ReprBulk
import HandS.Defaults
import HandS.Conv
import HandS.Style
import KE.KNestM
import HandS.HeadHook1
import HandS.HeadHook3
import HandS.HeadHook4
import HandS.EndTab
import KE.KStateDown
import Lean
import HandS.Head0
import HandS.Head1
import HandS.Head2
import Wide.Once
import PySem.Challenge.RW_oldaddress_k51_whole_books_followed
set_option Elab.async false
set_option linter.all false
set_option maxRecDepth 100000
set_option maxHeartbeats 0
set_option exponentiation.threshold 5000
/-! An own error class called with positional arguments and with keywords. -/
namespace OE
open PySem PySem.W PySem.Calls PyProof.Rows PySem.HandSPX
section
variable {M : Model} {A : Around} {E : Value → Shared → Prop} {hp : Heap} {g : Array GenState} {d : Drawn} {t : Nat} {os : OsState}
variable {nm q : Str} {C N : Addr} {bs bm bmB : List Value} {hdct : Bool} {sn : List Str} {sub : List Value} {ab : Bool} {col : Option Bool} {dd : Option Addr} {k0 k1 k2 k3 k5 : Option Value} {B newId initId : String}
variable {xs : List Value} {kw : List (Str × Value)}
theorem chk_call {Q : Unit → Shared → Prop} (oC : hp.get? C = some (excClassObj nm q C N bs bm hdct sn sub ab col dd k0 k1 k2 k3 k5 newId)) (z : Q () ⟨hp, g, d, t, os⟩) : wpAny M A (checkBuiltinCall "type.__call__" ⟨.ref C :: xs, kw⟩) Q E ⟨hp, g, d, t, os⟩ := by
  have w3 := tc_sub
  have wT : (⟨hp, g, d, t, os⟩ : Shared).TypeIs (.ref C) "type" := ⟨_, oC, rfl⟩
  simp only [checkBuiltinCall, tc_kind, tc_split]
  repeat (any_goals (first | assumption | with_reducible refine wpAny_loadPart_at oC ?_ | with_reducible refine wpAny_onRaise ?_ | with_reducible refine wpAny_map ?_ | wp_step))
theorem chk_new (F : ExcBaseFacts B newId initId bmB) (hT : ∀ Y : String, bm.contains (.type Y) = bmB.contains (.type Y)) {Q : Unit → Shared → Prop}
    (oC : hp.get? C = some (excClassObj nm q C N bs bm hdct sn sub ab col dd k0 k1 k2 k3 k5 newId)) (z : Q () ⟨hp, g, d, t, os⟩) : wpAny M A (checkBuiltinCall newId ⟨.ref C :: xs, kw⟩) Q E ⟨hp, g, d, t, os⟩ := by
  have inB : (Value.ref C :: bm).contains (.type B) = true := by
    rw [List.contains_cons, hT, F.hasB]
    exact Bool.or_true _
  have w1 := F.noStar
  simp only [checkBuiltinCall, F.newKind, F.newSplit, F.newRow]
  repeat (first | refine wpAny_loadPart_at oC ?_ | (refine wpAny_isSubtype_exc oC ?_; rw [inB]) | refine wpAny_staticBase_exc oC ?_ | refine wpAny_madeBy_exc oC ?_ | simp only [bne_self_eq_false, Bool.false_eq_true, if_false] | wp_step)
  all_goals first | exact z | skip
end
end OE
namespace OE
open PySem PySem.W PySem.Calls PyProof.Rows PySem.HandSPX
section
variable {prog : Program} {w : World} {A : Around} {E : Value → Shared → Prop} {R : Result → Shared → Prop} {hp : Heap} {g : Array GenState} {d : Drawn} {t : Nat} {os : OsState}
variable {nm q : Str} {C N : Addr} {bs bm bmB : List Value} {hdct : Bool} {sn : List Str} {sub : List Value} {ab : Bool} {col : Option Bool} {dd : Option Addr} {k0 k1 k2 k3 k5 : Option Value} {B newId initId : String}
variable {xs : List Value} {kw : List (Str × Value)}
/-- the heap behind __new__ -/
abbrev newHp (hp : Heap) (C : Addr) (xs : List Value) : Heap := (hp.push (W.kdv_tup xs)).push (excO C hp.objs.size)
theorem run_new (F : ExcBaseFacts B newId initId bmB) (hT : ∀ Y : String, bm.contains (.type Y) = bmB.contains (.type Y)) (oC : hp.get? C = some (excClassObj nm q C N bs bm hdct sn sub ab col dd k0 k1 k2 k3 k5 newId)) (hl : xs.length ≤ sizeLine)
    (z : R (.ok (.ret (.ref (hp.objs.size + 1)))) ⟨newHp hp C xs, g, d, t, os⟩) : codeAny (model prog w) A (.builtin newId ⟨.ref C :: xs, kw⟩) R ⟨hp, g, d, t, os⟩ := by
  have w1 := F.ends
  have inB : (Value.ref C :: bm).contains (.type B) = true := by
    rw [List.contains_cons, hT, F.hasB]
    exact Bool.or_true _
  have notA : (Value.ref C :: bm).contains (.type "AttributeError") = false := by rw [List.contains_cons, hT, F.noAttr] <;> rfl
  have notN : (Value.ref C :: bm).contains (.type "NameError") = false := by rw [List.contains_cons, hT, F.noName] <;> rfl
  refine codeAny_builtinAt F.entry ?_
  unfold Builtin.«BaseException.__new__»
  refine _root_.PySem.wpAt_bind ?_; show _root_.PySem.wpAt _ _ _ (stack >>= _) _ _ _
  refine _root_.PySem.wpAt_bind (_root_.PySem.wpAt_stack fun p l => _root_.PySem.wpAt_of_wpAny ?_)
  wp_walk
  refine _root_.PySem.wpAt_of_wpAny ?_
  rw [F.owner]
  repeat (first | with_reducible refine wpAny_madeHere_exc F.canon oC ?_ | with_reducible refine wpAny_loadPart_at oC ?_ | (with_reducible refine wpAny_isSubtype_exc oC ?_; first | rw [inB] | rw [notA] | rw [notN]) | wp_step)
  show R _ _
  rw [Heap.size_push]
  exact z
theorem run_typeCall {fI : Addr} {Q : Fin → Shared → Prop} (F : ExcBaseFacts B newId initId bmB) (hT : ∀ Y : String, bm.contains (.type Y) = bmB.contains (.type Y)) (oC : hp.get? C = some (excClassObj nm q C N bs bm hdct sn sub ab col dd k0 k1 k2 k3 k5 newId)) (hl : xs.length ≤ sizeLine)
    (li : W.Looks (model prog w) hp (typeLookup (.ref C) "__init__") (some (.ref fI))) (lb : ∀ self, W.Looks (model prog w) hp (bindSpecial (.ref fI) self) (.ref fI, [self]))
    (z : codeAny (model prog w) A (.call (.ref fI) ⟨.ref (hp.objs.size + 1) :: xs, kw⟩) (fun r s' => match r with | .ok (.ret v) => v = .none ∧ Q (.done (.ret (.ref (hp.objs.size + 1)))) s' | .ok _ => False | .error e => E e s') ⟨newHp hp C xs, g, d, t, os⟩) :
    wpAny (model prog w) A (Builtin.«type.__call__» ⟨.ref C :: xs, kw⟩) Q E ⟨hp, g, d, t, os⟩ := by
  repeat (first | with_reducible refine wpAny_loadPart_at oC ?_ | with_reducible refine wpAny_madeBy_exc oC ?_ | wp_step)
  refine codeAny_call_builtin_code (Code.quiet_builtin _ F.quiet) (chk_new F hT oC (run_new F hT oC hl ?_))
  show wpAny _ _ _ _ _ _
  have kp : ∀ b o, hp.get? b = some o → (newHp hp C xs).get? b = some o := fun b o e => Heap.get?_push_of_some _ (Heap.get?_push_of_some _ e)
  have oC' := kp _ _ oC
  have ox : (newHp hp C xs).get? (hp.objs.size + 1) = some (excO C hp.objs.size) := by heap_get
  have inC : (Value.ref C :: bm).contains (.ref C) = true := by simp
  have li' := li.keeps kp
  have lb' := (lb (.ref (hp.objs.size + 1))).keeps kp
  unfold isInstance
  repeat (first | with_reducible refine wpAny_loadPart_at ox ?_ | (with_reducible refine wpAny_isSubtype_exc oC' ?_; rw [inC]) | wp_step)
  show wpAny _ _ (typeLookup (.ref C) _) _ _ _
  refine li'.at (wpAny_holding (wpAny_bind (lb'.at (wpAny_bind (wpAny_call (codeAny_mono z fun r s' y => ?_))))))
  cases r with
  | error e => exact y
  | ok fl =>
    cases fl with
    | ret v =>
      have y' : v = .none ∧ Q (.done (.ret (.ref (hp.objs.size + 1)))) s' := y
      obtain ⟨e0, y2⟩ := y'
      subst e0
      first | exact wpAny_pure (wpAny_pure y2) | (wp_walk; try exact y2)
    | next => exact (show False from y).elim
    | brk => exact (show False from y).elim
    | cont => exact (show False from y).elim
/-- C(*xs, **kw) of an own error class with an own __init__ -/
theorem call_any {fI : Addr} (F : ExcBaseFacts B newId initId bmB) (hT : ∀ Y : String, bm.contains (.type Y) = bmB.contains (.type Y)) (oC : hp.get? C = some (excClassObj nm q C N bs bm hdct sn sub ab col dd k0 k1 k2 k3 k5 newId)) (hl : xs.length ≤ sizeLine)
    (li : W.Looks (model prog w) hp (typeLookup (.ref C) "__init__") (some (.ref fI))) (lb : ∀ self, W.Looks (model prog w) hp (bindSpecial (.ref fI) self) (.ref fI, [self]))
    (z : codeAny (model prog w) (A.under (.builtin "type.__call__" ⟨.ref C :: xs, kw⟩)) (.call (.ref fI) ⟨.ref (hp.objs.size + 1) :: xs, kw⟩) (W.InitBack (hp.objs.size + 1) R) ⟨newHp hp C xs, g, d, t, os⟩) :
    codeAny (model prog w) A (.call (.ref C) ⟨xs, kw⟩) R ⟨hp, g, d, t, os⟩ := by
  have w1 := tc_lookup
  have w2 := tc_bind (.ref C)
  have wT : (⟨hp, g, d, t, os⟩ : Shared).TypeIs (.ref C) "type" := ⟨_, oC, rfl⟩
  refine codeAny_of_tree ?_; show wpAny _ _ (callAny (.ref C) _) _ _ _
  repeat (any_goals (first | assumption | with_reducible refine wpAny_loadPart_at oC ?_ | wp_step))
  refine ⟨rfl, codeAny_call_builtin_at (Code.quiet_builtin _ (by decide +kernel)) entry_typeCall (chk_call oC (run_typeCall F hT oC hl li lb (codeAny_mono z fun r s' y => ?_)))⟩
  rcases r with e | (v | _ | _ | _) <;> exact y
end
end OE
/-! An own error class over an own class over ValueError, whose __init__ says super().__init__(text) and keeps one thing. -/
namespace OE
open PySem PySem.W PySem.Calls PyProof.Rows PySem.HandSPX
/-! ### the text of __init__ -/
def eA (f : Str) (p1 p2 : Pos) : Arguments := { posonlyargs := [], args := [{ arg := "self", annotation := none, pos := p1 }, { arg := f, annotation := none, pos := p2 }], vararg := none, kwonlyargs := [], kw_defaults := [], kwarg := none, defaults := [] }
def eB0 (tx : Str) (a b c d e e' : Pos) : Stmt := .Expr (.Call (.Attribute (.Call (.Name "super" a) [] [] b) "__init__" c) [.Constant (.str tx) 0 d] [] e) e'
def eB1 (f : Str) (g h i j : Pos) : Stmt := .Assign [.Attribute (.Name "self" g) f h] (.Name f i) j
def eS (f : Str) : Scope := { kind := .function, names := [(PySem.Str.ofString "self", .local), (f, .local), (PySem.Str.ofString "__class__", .free), (PySem.Str.ofString "super", .globalImplicit)], isGenerator := false, isCoroutine := false, more := [] }
/-- what the written part says of the class at C, and of its __init__, at fI -/
structure Cl1 (P : Program) (K : Frag) (C fI : Addr) (f : Str) : Prop where
  cls : ∃ nm q N bs bm sn sub ab col dd k0 k1 k2 k3 k5, K.lookup C = some (excClassObj nm q C N bs bm true sn sub ab col dd k0 k1 k2 k3 k5 "ValueError.__new__") ∧ refsVE bm = true
  sa : findIn K (.ref C) "__setattr__" = some (some (.builtin "object.__setattr__"))
  noF : findIn K (.ref C) f = some none
  iC : findIn K (.ref C) "__init__" = some (some (.ref fI))
  tC : typeIn K (.ref fI) = some (.type "function")
  sup : ks_superIn K C C "__init__" = some (some (.builtin "ValueError.__init__"))
  sub : mroIn K C (.ref C) = some true
  exI : excInitIn K C [.type "ValueError", .type "Exception", .type "BaseException", .type "object"] "ValueError.__new__" = true
  subV : subIn K (.ref C) (.type "ValueError") = some true
  opq : nsIn K cStatics "thirdparty.any" = some none
  spr : nsIn K mainGlobals "super" = some none
  fn : ∃ (oc : Value) (od : Option Addr) (doc pm : Value) (an : Option Addr) (ct : Value) (osl : Array (Option Value)) (p1 p2 : Pos) (tx : Str) (a b c d e e' g h i j : Pos) (qual : Str) (cc cda : Addr) (vs : Array Value) (file : Str) (tf : Tok) (ccl cl : Value) (cdd cld : Option Addr) (ccs csl : Array (Option Value)),
    K.lookup fI = some ⟨oc, od, .func (fnX "__init__" qual (eA f p1 p2) [eB0 tx a b c d e e', eB1 f g h i j] (eS f) [("__class__", cc)] .none .none doc pm an (.ref cda) ct), osl⟩ ∧ codeIn K (.ref cda) qual = true ∧
    (c.endLine == e.line) = true ∧ K.lookup cda = some ⟨ccl, cdd, .fields vs, ccs⟩ ∧ vs[2]? = some (.str file tf) ∧ ((P.main.file : Str) == file) = true ∧ K.lookup cc = some ⟨cl, cld, .cell (some (.ref C)), csl⟩
  fok : (f == ("self" : Str)) = false ∧ (f == ("__class__" : Str)) = false ∧ (f == ("super" : Str)) = false ∧ (f == ("__debug__" : Str)) = false
theorem he_of {env : Env} {o : Expr} {x tx : Str} {c d e : Pos} (hl : (c.endLine == e.line) = true) :
    eval (.Call (.Attribute o x c) [.Constant (.str tx) 0 d] [] e) env = (do
        let ov ← attributeBase o x env (eval o env)
        standAt c.atName
        let (f, first) ← holding [ov] (getMethod ov x (do return (← importBound o env).getD true))
        callWith e f first (backTo e (starEach [.Constant (.str tx) 0 d] env)) []) := by
  have hpos : methodCallPos true o env c e = pure e := by unfold methodCallPos; simp [hl]
  have hform : methodCallForm ([Expr.Constant (.str tx) 0 d].length + ([] : List Keyword).length) (backTo e (starEach [.Constant (.str tx) 0 d] env)) (backToKw e (keywordEach [] env)) = true := by rfl
  rw [arm_eval_Call]
  unfold methodCall
  rw [hform, hpos]
  rfl
/-- what __init__ leaves of a fresh exception at x -/
structure InitEnd (h h' : Heap) (x C dx t1 : Addr) (f : Str) (v : Value) : Prop where
  keep : ∀ b o, b ≠ x → h.get? b = some o → h'.get? b = some o
  obj : h'.get? x = some { cls := .ref C, dict := some dx, data := .fields #[.ref t1, .none, .none, .none, .bool false, .none] }
  dbig : h.objs.size ≤ dx
  dne : dx ≠ x
  ns : h'.Ns1 dx (fun y => if y = f then some v else none)
section
variable {P : Program} {w : World} {A : Around} {E : Value → Shared → Prop} {R : Result → Shared → Prop} {s : Shared} {K : Frag} {mg mb : Str → Option Value} {C fI : Addr} {f : Str}
theorem init1 (T : Cl1 P K C fI f) {x t0 : Addr} {v : Value} {args : Args} (X : K.In s.heap) (hg : s.heap.Ns mainGlobals mg) (hb : s.heap.Ns builtinsNs mb) (hbi : ∀ x : Str, x ≠ "__name__" → mb x = bootBuiltins x) (htop : (P.main.scope.names.lookup ("super" : Str)).isSome = false)
    (hlim : s.heap.NoLimit) (hx : s.heap.get? x = some (excO C t0)) (hnx : K.lookup x = none) (hroom : A.depth < recursionLimit)
    (hbind : ∀ fd : FuncData, (∃ p1 p2, fd.params = eA f p1 p2) → fd.defaults = .none → fd.kwdefaults = .none → BindsTo s fd args [("self", .ref x), (f, v)])
    (hq : ∀ h' tk dx t1, InitEnd s.heap h' x C dx t1 f v → R (.ok (.ret .none)) { s with heap := h', toks := tk }) :
    codeAny (model P w) A (.call (.ref fI) args) R s := by
  obtain ⟨oc, od, doc, pm, an, ct, osl, p1, p2, tx, a, b, c, d, e, e', g, h, i, j, qual, cc, cda, vs, file, tf, ccl, cl, cdd, cld, ccs, csl, ho, hcd, hline, hcode, hvs, hfile, hcell⟩ := T.fn
  obtain ⟨nm, q, N, bs, bm, sn, sub, ab, col, dd, k0, k1, k2, k3, k5, hC, hbm⟩ := T.cls
  obtain ⟨n1, n2, n3, n4⟩ := T.fok
  have hcl : clsIn K C = some { name := nm, bases := bs, mro := .ref C :: bm, ns := N, qualname := q, hasDict := true, slotNames := sn, subclasses := sub, abstract := ab, collection := col, hasDel := false } := by unfold clsIn; rw [hC] <;> rfl
  have lself : (eS f).names.lookup ("self" : Str) = some .local := by simp [eS, List.lookup]
  have lf : (eS f).names.lookup f = some .local := by simp [eS, List.lookup, n1]
  have lsup : (eS f).names.lookup ("super" : Str) = some .globalImplicit := by
    have z : (("super" : Str) == f) = false := by rw [beq_eq_false_iff_ne]; intro q; rw [← q] at n3; exact absurd n3 (by decide +kernel)
    have z1 : (("super" : Str) == PySem.Str.ofString "self") = false := by decide +kernel
    have z2 : (("super" : Str) == PySem.Str.ofString "__class__") = false := by decide +kernel
    simp [eS, List.lookup, z, z1, z2]
  have lcls : (eS f).names.lookup ("__class__" : Str) = some .free := by
    have z : (("__class__" : Str) == f) = false := by rw [beq_eq_false_iff_ne]; intro q; rw [← q] at n2; exact absurd n2 (by decide +kernel)
    have z1 : (("__class__" : Str) == PySem.Str.ofString "self") = false := by decide +kernel
    simp [eS, List.lookup, z, z1]
  have n1' : (("self" : Str) == f) = false := by rw [beq_eq_false_iff_ne]; exact fun q => (beq_eq_false_iff_ne.mp n1) q.symm
  have e1 : ([("self", Value.ref x), (f, v)] : List (Str × Value)).reverse.lookup ("self" : Str) = some (Value.ref x) := by simp [List.lookup, n1']
  have e2 : ([("self", Value.ref x), (f, v)] : List (Str × Value)).reverse.lookup f = some v := by simp [List.lookup]
  refine ks_codeAny_call_defAt (fd := fnX "__init__" qual (eA f p1 p2) [eB0 tx a b c d e e', eB1 f g h i j] (eS f) [("__class__", cc)] .none .none doc pm an (.ref cda) ct) (body := [eB0 tx a b c d e e', eB1 f g h i j]) (binds := [("self", .ref x), (f, v)])
    hroom (X _ _ ho) rfl hlim (codeRec_of X hcd) rfl (hbind _ ⟨_, _, rfl⟩ rfl rfl) ?_ ?_ (fun h₁ hns hk₁ => ?_)
  · intro y hy
    have z : (eS f).names = [(PySem.Str.ofString "self", .local), (f, .local), (PySem.Str.ofString "__class__", .free), (PySem.Str.ofString "super", .globalImplicit)] := rfl
    rw [show (fnX "__init__" qual (eA f p1 p2) [eB0 tx a b c d e e', eB1 f g h i j] (eS f) [("__class__", cc)] .none .none doc pm an (.ref cda) ct).scope.names = _ from z] at hy
    simp only [List.mem_cons, List.not_mem_nil, or_false] at hy
    rcases hy with rfl | rfl | rfl | rfl <;> exact fun z => nomatch z
  · intro y hy
    simp only [List.mem_cons, List.not_mem_nil, or_false] at hy
    rcases hy with rfl | rfl
    · exact lself
    · exact lf
  have X₁ : K.In h₁ := X.keeps hk₁
  have hx₁ := hk₁ _ _ hx
  have hxL : s.heap.objs.size ≠ x := Nat.ne_of_gt (Heap.lt_size hx)
  obtain ⟨hp, gs, dr, tk, os⟩ := s
  refine ks_wpAt_execs_cons ?_
  show _root_.PySem.wpAt _ _ _ (exec (.Expr (.Call (.Attribute (.Call (.Name "super" a) [] [] b) "__init__" c) [.Constant (.str tx) 0 d] [] e) e') _) _ _ _
  refine ks_wpAt_Expr_any ?_ (by rfl) (by rfl)
  refine ks_wpAt_MethodCall (pl := (do return (← importBound (.Call (.Name "super" a) [] [] b) (callEnv (fnX "__init__" qual (eA f p1 p2) [eB0 tx a b c d e e', eB1 f g h i j] (eS f) [("__class__", cc)] .none .none doc pm an (.ref cda) ct) hp.objs.size fI)).getD true)) ?_ (he_of hline)
  have hClo : h₁.get? C = some _ := X₁ _ _ hC
  -- super()
  refine ks_wpAt_super_base (env := callEnv (fnX "__init__" qual (eA f p1 p2) [eB0 tx a b c d e e', eB1 f g h i j] (eS f) [("__class__", cc)] .none .none doc pm an (.ref cda) ct) hp.objs.size fI) lsup lcls (by decide +kernel) rfl (X₁ _ _ ho) rfl rfl rfl (X₁ _ _ hcode) rfl hvs hfile htop ?_
  refine ks_loadName_global rfl lsup (loadGlobal_builtin (env := callEnv (fnX "__init__" qual (eA f p1 p2) [eB0 tx a b c d e e', eB1 f g h i j] (eS f) [("__class__", cc)] .none .none doc pm an (.ref cda) ct) hp.objs.size fI) (hg.keeps hk₁) (mg_none_of X hg T.spr) (hb.keeps hk₁) ((hbi _ (by decide +kernel)).trans (by decide +kernel)) ⟨rfl, ?_⟩)
  refine wpAny_loadName_free rfl lcls rfl ⟨_, X₁ _ _ hcell, rfl⟩ ?_
  refine wpAny_loadName_local (v := .ref x) rfl lself hns e1 ?_
  refine ks_wpAny_isType_cls hClo rfl ⟨rfl, ?_⟩
  refine ks_wpAny_call_super hClo rfl hx₁ rfl (fun c e => nomatch e) (looks_mroIn X₁ T.sub) (fun h₂ hso k₂ => ?_)
  have X₂ : K.In h₂ := X₁.keeps k₂
  have hx₂ := k₂ _ _ hx₁
  have I₂ : InstAt h₂ x (excO C t0) C none := ⟨hx₂, rfl, rfl, trivial⟩
  have hxC : x ≠ C := fun z => by rw [z, hC] at hnx; cases hnx
  -- .__init__
  refine kxs_getMethod kxs_ValueError hso (looks_opaque X₂ T.opq) (l₀ := .ref C :: bm) (l := ((Value.ref C :: bm).dropWhile (· != .ref C)).drop 1) (fun A Q E s k q => wpAny_bind ((looks_clsIn X₂ hcl) A _ E s k (wpAny_pure q))) rfl X₂ ?_ (I₂.type.andThen (looks_subIn X₂ T.subV)) hxC (by decide +kernel) ?_
  · have z := T.sup
    unfold ks_superIn at z
    rw [hcl] at z
    exact z
  -- its call
  show wpAny _ _ (callWith e (.ref h₂.objs.size) [] (backTo e (starEach [.Constant (.str tx) 0 d] _)) []) _ _ _
  have hso₃ : (h₂.push (kxs_mw "ValueError.__init__" x)).get? h₂.objs.size = some (kxs_mw "ValueError.__init__" x) := Heap.get?_push_at rfl rfl
  have hx₃ : (h₂.push (kxs_mw "ValueError.__init__" x)).get? x = some (excO C t0) := Heap.get?_push_of_some _ hx₂
  refine kxs_callWith (i := "ValueError.__init__") (x := x) rfl (evalArgs_plain (spliced_cons (Calls.Constant_str (pos := d) (k := 0) (spliced_nil ⟨hso₃, ?_⟩))))
  show wpAny _ _ (call (.ref h₂.objs.size) [_]) _ _ _
  -- all that stood at the entry but x is the base of the walk
  have hb0 : ∀ y o, hp.get? y = some o → y ≠ x → (hideAll hp [x]).get? y = some o := fun y o z n => hideAll_get _ z (by simpa using n)
  have hb1 : ∀ y o, (hideAll hp [x]).get? y = some o → hp.get? y = some o ∧ y ≠ x := fun y o z => ⟨of_hideAll _ z, fun q => by rw [q, hideAll_none _ (by simp)] at z; cases z⟩
  have X0 : K.In (hideAll hp [x]) := fun y o z => hb0 y o (X y o z) fun q => by rw [q, hnx] at z; cases z
  have k₃ : ∀ y o, h₁.get? y = some o → (h₂.push (kxs_mw "ValueError.__init__" x)).get? y = some o := fun y o z => Heap.get?_push_of_some _ (k₂ y o z)
  have F₃ : Fr (hideAll hp [x]) hp.objs.size (h₂.push (kxs_mw "ValueError.__init__" x)) _ := ⟨hns.at fun o q => k₃ _ o q, fun y o z => k₃ y o (hk₁ y o (hb1 y o z).1), by rw [hideAll_size]; exact Nat.le_refl _⟩
  have n2 : ∀ y, hp.objs.size ≤ y → (hideAll hp [x]).get? y = none := fun y n => by
    cases z : (hideAll hp [x]).get? y with
    | none => rfl
    | some o => exact absurd (Heap.lt_size (hb1 y o z).1) (Nat.not_lt.mpr n)
  have l2 : hp.objs.size < h₂.objs.size := Heap.lt_size (k₂ _ _ hns.choose_spec.choose_spec.choose_spec.1)
  have ux : h₂.objs.size ≠ x := fun q => absurd (Heap.lt_size hx) (by rw [← q]; exact Nat.not_lt.mpr (Nat.le_of_lt l2))
  have N₃ : News (hideAll hp [x]) hp.objs.size (h₂.push (kxs_mw "ValueError.__init__" x)) [(h₂.objs.size, kxs_mw "ValueError.__init__" x), (x, excObj C t0 none .none)] := by
    intro p hp'
    rcases List.mem_cons.mp hp' with rfl | hp'
    · exact ⟨hso₃, Nat.ne_of_gt l2, n2 _ (Nat.le_of_lt l2)⟩
    · obtain rfl := List.mem_singleton.mp hp'
      exact ⟨hx₃, hxL.symm, hideAll_none _ (by simp)⟩
  refine kxs_call (i := "ValueError.__init__") (c2 := .none) F₃ X0 N₃ F.excBase_ValueError T.exI (List.mem_cons_self ..) (.tail ux (.head (fun p hp => nomatch hp))) (by show 1 ≤ sizeLine; rw [sizeLine_eq]; decide) (fun t1 h₄ F₄ N₄ _ => ?_)
  have hx₄ : h₄.get? x = some (excO C t1) := (N₄ (x, excObj C t1 none .none) (by simp)).1
  have kk : ∀ b o, b ≠ x → hp.get? b = some o → h₄.get? b = some o := fun b o n z => F₄.keep b o (hb0 b o z n)
  -- self.f = f
  refine ks_wpAt_execs_cons (_root_.PySem.wpAt_of_wpAny ?_)
  have X₄ : K.In h₄ := X0.keeps F₄.keep
  have hns₄ : h₄.Ns hp.objs.size _ := F₄.ns
  show wpAny _ _ (exec (.Assign [.Attribute (.Name "self" g) f h] (.Name f i) j) _) _ _ _
  refine plainObj_wpAny_Assign_Attribute (wpAny_Name (wpAny_loadName_local (v := v) rfl lf hns₄ e2 (wpAny_Name (wpAny_loadName_local (v := .ref x) rfl lself hns₄ e1 ?_) (by decide +kernel))) n4) (by rfl)
  refine set_plain X₄ (ox := excO C t1) (od := none) ⟨hx₄, rfl, rfl, trivial⟩ T.sa ?_
  refine exc_osa X₄ hx₄ hcl (show refsVE (.ref C :: bm) = true from hbm) rfl T.noF (fun h₅ tk₅ dx k₅ dn dne hx₅ hn₅ => ?_)
  refine _root_.PySem.wpAt_of_wpAny (wpAny_execs_nil (hq h₅ tk₅ dx t1 ⟨fun b o n z => k₅ b o n (kk b o n z), hx₅, Nat.le_of_lt (Nat.lt_of_lt_of_le hns₄.lt dn), dne, hn₅⟩))
end
end OE
/-! The same without a field: __init__(self) with super().__init__(text). -/
namespace OE
open PySem PySem.W PySem.Calls PyProof.Rows PySem.HandSPX
def eA0 (p1 : Pos) : Arguments := { posonlyargs := [], args := [{ arg := "self", annotation := none, pos := p1 }], vararg := none, kwonlyargs := [], kw_defaults := [], kwarg := none, defaults := [] }
def eS0 : Scope := { kind := .function, names := [(PySem.Str.ofString "self", .local), (PySem.Str.ofString "__class__", .free), (PySem.Str.ofString "super", .globalImplicit)], isGenerator := false, isCoroutine := false, more := [] }
/-- what the written part says of the class at C, and of its __init__, at fI -/
structure Cl0 (P : Program) (K : Frag) (C fI : Addr) : Prop where
  cls : ∃ nm q N bs bm sn sub ab col dd k0 k1 k2 k3 k5, K.lookup C = some (excClassObj nm q C N bs bm true sn sub ab col dd k0 k1 k2 k3 k5 "ValueError.__new__") ∧ refsVE bm = true
  iC : findIn K (.ref C) "__init__" = some (some (.ref fI))
  tC : typeIn K (.ref fI) = some (.type "function")
  sup : ks_superIn K C C "__init__" = some (some (.builtin "ValueError.__init__"))
  sub : mroIn K C (.ref C) = some true
  exI : excInitIn K C [.type "ValueError", .type "Exception", .type "BaseException", .type "object"] "ValueError.__new__" = true
  subV : subIn K (.ref C) (.type "ValueError") = some true
  opq : nsIn K cStatics "thirdparty.any" = some none
  spr : nsIn K mainGlobals "super" = some none
  fn : ∃ (oc : Value) (od : Option Addr) (doc pm : Value) (an : Option Addr) (ct : Value) (osl : Array (Option Value)) (p1 : Pos) (tx : Str) (a b c d e e' : Pos) (qual : Str) (cc cda : Addr) (vs : Array Value) (file : Str) (tf : Tok) (ccl cl : Value) (cdd cld : Option Addr) (ccs csl : Array (Option Value)),
    K.lookup fI = some ⟨oc, od, .func (fnX "__init__" qual (eA0 p1) [eB0 tx a b c d e e'] eS0 [("__class__", cc)] .none .none doc pm an (.ref cda) ct), osl⟩ ∧ codeIn K (.ref cda) qual = true ∧
    (c.endLine == e.line) = true ∧ K.lookup cda = some ⟨ccl, cdd, .fields vs, ccs⟩ ∧ vs[2]? = some (.str file tf) ∧ ((P.main.file : Str) == file) = true ∧ K.lookup cc = some ⟨cl, cld, .cell (some (.ref C)), csl⟩
section
variable {P : Program} {w : World} {A : Around} {E : Value → Shared → Prop} {R : Result → Shared → Prop} {s : Shared} {K : Frag} {mg mb : Str → Option Value} {C fI : Addr}
theorem init0 (T : Cl0 P K C fI) {x t0 : Addr} {args : Args} (X : K.In s.heap) (hg : s.heap.Ns mainGlobals mg) (hb : s.heap.Ns builtinsNs mb) (hbi : ∀ x : Str, x ≠ "__name__" → mb x = bootBuiltins x) (htop : (P.main.scope.names.lookup ("super" : Str)).isSome = false)
    (hlim : s.heap.NoLimit) (hx : s.heap.get? x = some (excO C t0)) (hnx : K.lookup x = none) (hroom : A.depth < recursionLimit)
    (hbind : ∀ fd : FuncData, (∃ p1, fd.params = eA0 p1) → fd.defaults = .none → fd.kwdefaults = .none → BindsTo s fd args [("self", .ref x)])
    (hq : ∀ h' tk t1, (∀ b o, b ≠ x → s.heap.get? b = some o → h'.get? b = some o) → h'.get? x = some (excO C t1) → R (.ok (.ret .none)) { s with heap := h', toks := tk }) :
    codeAny (model P w) A (.call (.ref fI) args) R s := by
  obtain ⟨oc, od, doc, pm, an, ct, osl, p1, tx, a, b, c, d, e, e', qual, cc, cda, vs, file, tf, ccl, cl, cdd, cld, ccs, csl, ho, hcd, hline, hcode, hvs, hfile, hcell⟩ := T.fn
  obtain ⟨nm, q, N, bs, bm, sn, sub, ab, col, dd, k0, k1, k2, k3, k5, hC, hbm⟩ := T.cls
  have hcl : clsIn K C = some { name := nm, bases := bs, mro := .ref C :: bm, ns := N, qualname := q, hasDict := true, slotNames := sn, subclasses := sub, abstract := ab, collection := col, hasDel := false } := by unfold clsIn; rw [hC] <;> rfl
  have lself : eS0.names.lookup ("self" : Str) = some .local := by decide +kernel
  have lsup : eS0.names.lookup ("super" : Str) = some .globalImplicit := by decide +kernel
  have lcls : eS0.names.lookup ("__class__" : Str) = some .free := by decide +kernel
  have e1 : ([("self", Value.ref x)] : List (Str × Value)).reverse.lookup ("self" : Str) = some (Value.ref x) := by simp [List.lookup]
  refine ks_codeAny_call_defAt (fd := fnX "__init__" qual (eA0 p1) [eB0 tx a b c d e e'] eS0 [("__class__", cc)] .none .none doc pm an (.ref cda) ct) (body := [eB0 tx a b c d e e']) (binds := [("self", .ref x)])
    hroom (X _ _ ho) rfl hlim (codeRec_of X hcd) rfl (hbind _ ⟨_, rfl⟩ rfl rfl) ?_ ?_ (fun h₁ hns hk₁ => ?_)
  · intro y hy
    have z : eS0.names = [(PySem.Str.ofString "self", .local), (PySem.Str.ofString "__class__", .free), (PySem.Str.ofString "super", .globalImplicit)] := rfl
    rw [show (fnX "__init__" qual (eA0 p1) [eB0 tx a b c d e e'] eS0 [("__class__", cc)] .none .none doc pm an (.ref cda) ct).scope.names = _ from z] at hy
    simp only [List.mem_cons, List.not_mem_nil, or_false] at hy
    rcases hy with rfl | rfl | rfl <;> exact fun z => nomatch z
  · intro y hy
    simp only [List.mem_cons, List.not_mem_nil, or_false] at hy
    subst hy
    exact lself
  have X₁ : K.In h₁ := X.keeps hk₁
  have hx₁ := hk₁ _ _ hx
  have hxL : s.heap.objs.size ≠ x := Nat.ne_of_gt (Heap.lt_size hx)
  obtain ⟨hp, gs, dr, tk, os⟩ := s
  refine ks_wpAt_execs_cons ?_
  show _root_.PySem.wpAt _ _ _ (exec (.Expr (.Call (.Attribute (.Call (.Name "super" a) [] [] b) "__init__" c) [.Constant (.str tx) 0 d] [] e) e') _) _ _ _
  refine ks_wpAt_Expr_any ?_ (by rfl) (by rfl)
  refine ks_wpAt_MethodCall (pl := (do return (← importBound (.Call (.Name "super" a) [] [] b) (callEnv (fnX "__init__" qual (eA0 p1) [eB0 tx a b c d e e'] eS0 [("__class__", cc)] .none .none doc pm an (.ref cda) ct) hp.objs.size fI)).getD true)) ?_ (he_of hline)
  have hClo : h₁.get? C = some _ := X₁ _ _ hC
  -- super()
  refine ks_wpAt_super_base (env := callEnv (fnX "__init__" qual (eA0 p1) [eB0 tx a b c d e e'] eS0 [("__class__", cc)] .none .none doc pm an (.ref cda) ct) hp.objs.size fI) lsup lcls (by decide +kernel) rfl (X₁ _ _ ho) rfl rfl rfl (X₁ _ _ hcode) rfl hvs hfile htop ?_
  refine ks_loadName_global rfl lsup (loadGlobal_builtin (env := callEnv (fnX "__init__" qual (eA0 p1) [eB0 tx a b c d e e'] eS0 [("__class__", cc)] .none .none doc pm an (.ref cda) ct) hp.objs.size fI) (hg.keeps hk₁) (mg_none_of X hg T.spr) (hb.keeps hk₁) ((hbi _ (by decide +kernel)).trans (by decide +kernel)) ⟨rfl, ?_⟩)
  refine wpAny_loadName_free rfl lcls rfl ⟨_, X₁ _ _ hcell, rfl⟩ ?_
  refine wpAny_loadName_local (v := .ref x) rfl lself hns e1 ?_
  refine ks_wpAny_isType_cls hClo rfl ⟨rfl, ?_⟩
  refine ks_wpAny_call_super hClo rfl hx₁ rfl (fun c e => nomatch e) (looks_mroIn X₁ T.sub) (fun h₂ hso k₂ => ?_)
  have X₂ : K.In h₂ := X₁.keeps k₂
  have hx₂ := k₂ _ _ hx₁
  have I₂ : InstAt h₂ x (excO C t0) C none := ⟨hx₂, rfl, rfl, trivial⟩
  have hxC : x ≠ C := fun z => by rw [z, hC] at hnx; cases hnx
  -- .__init__
  refine kxs_getMethod kxs_ValueError hso (looks_opaque X₂ T.opq) (l₀ := .ref C :: bm) (l := ((Value.ref C :: bm).dropWhile (· != .ref C)).drop 1) (fun A Q E s k q => wpAny_bind ((looks_clsIn X₂ hcl) A _ E s k (wpAny_pure q))) rfl X₂ ?_ (I₂.type.andThen (looks_subIn X₂ T.subV)) hxC (by decide +kernel) ?_
  · have z := T.sup
    unfold ks_superIn at z
    rw [hcl] at z
    exact z
  -- its call
  show wpAny _ _ (callWith e (.ref h₂.objs.size) [] (backTo e (starEach [.Constant (.str tx) 0 d] _)) []) _ _ _
  have hso₃ : (h₂.push (kxs_mw "ValueError.__init__" x)).get? h₂.objs.size = some (kxs_mw "ValueError.__init__" x) := Heap.get?_push_at rfl rfl
  have hx₃ : (h₂.push (kxs_mw "ValueError.__init__" x)).get? x = some (excO C t0) := Heap.get?_push_of_some _ hx₂
  refine kxs_callWith (i := "ValueError.__init__") (x := x) rfl (evalArgs_plain (spliced_cons (Calls.Constant_str (pos := d) (k := 0) (spliced_nil ⟨hso₃, ?_⟩))))
  show wpAny _ _ (call (.ref h₂.objs.size) [_]) _ _ _
  -- all that stood at the entry but x is the base of the walk
  have hb0 : ∀ y o, hp.get? y = some o → y ≠ x → (hideAll hp [x]).get? y = some o := fun y o z n => hideAll_get _ z (by simpa using n)
  have hb1 : ∀ y o, (hideAll hp [x]).get? y = some o → hp.get? y = some o ∧ y ≠ x := fun y o z => ⟨of_hideAll _ z, fun q => by rw [q, hideAll_none _ (by simp)] at z; cases z⟩
  have X0 : K.In (hideAll hp [x]) := fun y o z => hb0 y o (X y o z) fun q => by rw [q, hnx] at z; cases z
  have k₃ : ∀ y o, h₁.get? y = some o → (h₂.push (kxs_mw "ValueError.__init__" x)).get? y = some o := fun y o z => Heap.get?_push_of_some _ (k₂ y o z)
  have F₃ : Fr (hideAll hp [x]) hp.objs.size (h₂.push (kxs_mw "ValueError.__init__" x)) _ := ⟨hns.at fun o q => k₃ _ o q, fun y o z => k₃ y o (hk₁ y o (hb1 y o z).1), by rw [hideAll_size]; exact Nat.le_refl _⟩
  have n2 : ∀ y, hp.objs.size ≤ y → (hideAll hp [x]).get? y = none := fun y n => by
    cases z : (hideAll hp [x]).get? y with
    | none => rfl
    | some o => exact absurd (Heap.lt_size (hb1 y o z).1) (Nat.not_lt.mpr n)
  have l2 : hp.objs.size < h₂.objs.size := Heap.lt_size (k₂ _ _ hns.choose_spec.choose_spec.choose_spec.1)
  have ux : h₂.objs.size ≠ x := fun q => absurd (Heap.lt_size hx) (by rw [← q]; exact Nat.not_lt.mpr (Nat.le_of_lt l2))
  have N₃ : News (hideAll hp [x]) hp.objs.size (h₂.push (kxs_mw "ValueError.__init__" x)) [(h₂.objs.size, kxs_mw "ValueError.__init__" x), (x, excObj C t0 none .none)] := by
    intro p hp'
    rcases List.mem_cons.mp hp' with rfl | hp'
    · exact ⟨hso₃, Nat.ne_of_gt l2, n2 _ (Nat.le_of_lt l2)⟩
    · obtain rfl := List.mem_singleton.mp hp'
      exact ⟨hx₃, hxL.symm, hideAll_none _ (by simp)⟩
  refine kxs_call (i := "ValueError.__init__") (c2 := .none) F₃ X0 N₃ F.excBase_ValueError T.exI (List.mem_cons_self ..) (.tail ux (.head (fun p hp => nomatch hp))) (by show 1 ≤ sizeLine; rw [sizeLine_eq]; decide) (fun t1 h₄ F₄ N₄ _ => ?_)
  have hx₄ : h₄.get? x = some (excO C t1) := (N₄ (x, excObj C t1 none .none) (by simp)).1
  have kk : ∀ b o, b ≠ x → hp.get? b = some o → h₄.get? b = some o := fun b o n z => F₄.keep b o (hb0 b o z n)
  exact _root_.PySem.wpAt_of_wpAny (wpAny_execs_nil (hq h₄ _ t1 kk hx₄))
end
end OE
namespace OE
open PySem PySem.Spec PyProof.Rows L2
/-! ### two new objects at once -/
section
variable {P : Program} {w : World} {fs ex : List Addr} {H : Hp} {h h' : Heap} {a b : Addr} {o u : HO}
theorem upd2_at {x : Addr} (ha : H a = none) (hb : H b = none) {v : HO} (e : H x = some v) : upd (upd H b u) a o x = some v := by
  rw [upd_ne (ne_of_none e ha), upd_ne (ne_of_none e hb)]
  exact e
theorem un2 (k : ∀ x z, h.get? x = some z → h'.get? x = some z) (na : h.get? a = none) (nb : h.get? b = none) (ha : H a = none) (hb : H b = none) : Un fs ex H (upd (upd H b u) a o) h h' := by
  have out : ∀ x z, h.get? x = some z → x ≠ a ∧ x ≠ b := fun x z e => ⟨fun q => (by rw [q, na] at e; cases e), fun q => (by rw [q, nb] at e; cases e)⟩
  constructor
  · exact fun x z e _ _ _ => k x z e
  · exact fun x z e _ _ _ => ⟨z.slots, k x z e⟩
  · intro x z e n _
    rw [upd_ne (out x z e).1, upd_ne (out x z e).2]
    exact n
  · exact fun x z e _ => ⟨z, k x z e⟩
  · exact fun x xs e => upd2_at ha hb e
  · exact fun x z v e => upd2_at ha hb e
  · exact fun x ps e => ⟨#[], by rw [upd2_at ha hb e]; simp⟩
theorem hok2 (ok : HOk P w H h) (k : ∀ x z, h.get? x = some z → h'.get? x = some z) (ha : H a = none) (hb : H b = none) (na : ObjOk P w (upd (upd H b u) a o) h' a o) (nb : ObjOk P w (upd (upd H b u) a o) h' b u) : HOk P w (upd (upd H b u) a o) h' := by
  intro x v e
  by_cases xa : x = a
  · subst xa
    rw [upd_same] at e
    cases e
    exact na
  · by_cases xb : x = b
    · subst xb
      rw [upd_ne xa, upd_same] at e
      cases e
      exact nb
    · rw [upd_ne xa, upd_ne xb] at e
      exact (ok x v e).stay (fun c z _ q => k c z q) (fun c q => upd2_at ha hb q) fun c xs q => upd2_at ha hb q
end
/-! ### an error as a value -/
/-- the error at a, of the class at C, keeps v as f -/
def Kept (H : Hp) (a C : Addr) (f : Str) (v : V) : Prop := ∃ d, H a = some (exo a C (some d)) ∧ H d = some (exd d [(f, v)])
def tMk (C : Addr) (f : Str) (te : TE) : TE := fun σ H Q => te σ H fun v H1 => ∀ a d, H1 a = none → H1 d = none → d ≠ a → Q (.ref a) (upd (upd H1 d (exd d [(f, v)])) a (exo a C (some d)))
/-- how the arguments of __init__ bind -/
def Bds (f : Str) : Prop := ∀ (fd : FuncData), (∃ p1 p2, fd.params = eA f p1 p2) → fd.defaults = .none → fd.kwdefaults = .none → ∀ (x : Addr) (u : Value), bindArgs fd ⟨[.ref x, u], []⟩ = pure ([("self", .ref x), (f, u)] : List (Str × Value)) ∧ bindArgs fd ⟨[.ref x], [(f, u)]⟩ = pure ([("self", .ref x), (f, u)] : List (Str × Value))
section
variable {X : Cx} {C fI : Addr} {f x : Str} {k : Nat}
theorem make_run {pins : List (Addr × Obj)} {σ : L2.St} {H : Hp} {s : Shared} {v : V} {u : Value} {xs : List Value} {kw : List (Str × Value)} {Q : VK} (T : Cl1 X.prog X.K C fI f) (hr : Room (k + 1) X.A) (htop : (X.prog.main.scope.names.lookup ("super" : Str)).isSome = false) (I : Inv X pins σ H s)
    (hl : xs.length ≤ sizeLine) (hbd : ∀ (fd : FuncData), (∃ p1 p2, fd.params = eA f p1 p2) → fd.defaults = .none → fd.kwdefaults = .none → ∀ (x : Addr), bindArgs fd ⟨.ref x :: xs, kw⟩ = pure ([("self", .ref x), (f, u)] : List (Str × Value))) (rv : RelV v u)
    (q : ∀ a d, H a = none → H d = none → d ≠ a → Q (.ref a) (upd (upd H d (exd d [(f, v)])) a (exo a C (some d)))) : wpAny (model X.prog X.w) X.A (call (.ref C) xs kw) (EP X pins σ Q) X.xe s := by
  obtain ⟨nm, qn, N, bs, bm, sn, sub, ab, col, dd, k0, k1, k2, k3, k5, hC, hbm⟩ := T.cls
  obtain ⟨mb, nb, hbi⟩ := I.mod.blt
  obtain ⟨hp, g, dr, tk, os⟩ := s
  have kp : ∀ b o, hp.get? b = some o → (newHp hp C xs).get? b = some o := fun b o e => Heap.get?_push_of_some _ (Heap.get?_push_of_some _ e)
  have bk : ∀ b o, X.base.get? b = some o → (newHp hp C xs).get? b = some o := fun b o e => kp b o (I.bk b o e)
  have ox : (newHp hp C xs).get? (hp.objs.size + 1) = some (PySem.HandSPX.excO C hp.objs.size) := by heap_get
  have KX : X.K.In (newHp hp C xs) := I.mod.kin.keeps bk
  have nx : hp.get? (hp.objs.size + 1) = none := Heap.get?_none_of_le (Nat.le_succ _)
  have nK : X.K.lookup (hp.objs.size + 1) = none := by
    cases z : X.K.lookup (hp.objs.size + 1) with
    | none => rfl
    | some o =>
      have y : hp.get? _ = some o := I.kIn _ _ z
      rw [nx] at y
      cases y
  refine wpAny_call (call_any F.excBase_ValueError (fun Y => PySem.HandSPX.refsVE_contains Y bm hbm) (I.kIn _ _ hC) hl (PySem.W.looks_findIn I.kIn T.iC) (fun self => PySem.W.bind_fn I.kIn self T.tC) ?_)
  refine init1 T (x := hp.objs.size + 1) (t0 := hp.objs.size) (v := u) KX (I.mod.glob.keeps bk) (nb.keeps bk) hbi htop (I.mod.nolimit.keeps bk) ox nK ?_ (fun fd h1 h2 h3 => BindsTo.of_eq (hbd fd h1 h2 h3 _)) ?_
  · rw [make_depth]
    have := hr.dp
    omega
  · intro h' tk' d t1 E
    have k' : ∀ b o, hp.get? b = some o → h'.get? b = some o := fun b o e => E.keep b o (Nat.ne_of_lt (Nat.lt_succ_of_lt (Heap.lt_size e))) (kp b o e)
    have hsz : (newHp hp C xs).objs.size = hp.objs.size + 2 := by rw [newHp, Heap.size_push, Heap.size_push]
    have db := E.dbig
    have db2 : hp.objs.size ≤ d := by
      have z : (newHp hp C xs).objs.size ≤ d := db
      omega
    have nd : hp.get? d = none := Heap.get?_none_of_le db2
    have ha : H (hp.objs.size + 1) = none := I.hok.fresh (Nat.le_succ _)
    have hd : H d = none := I.hok.fresh db2
    refine ⟨rfl, .ref (hp.objs.size + 1), _, I.un (t' := tk') (un2 k' nx nd ha hd) (hok2 I.hok k' ha hd (exo_ok E.obj) (exd_ok E.ns fun g => ?_)), rfl, q _ d ha hd E.dne⟩
    exact relO_put (fs := []) (mA := fun _ => none) rv (fun _ => True.intro) g
end
end OE
/-! The draws of the laws by a stream of three numbers, the last of which counts. -/
namespace OB
open PySem PySem.Spec PyProof.Rows L2
def top (i : Nat) : Stmt := PySem.Challenge.pw_oldaddress_k51_whole_books_followed.main.body.getD i (.Pass ⟨0, 0, 0, 0⟩)
abbrev sSource : Stmt := top 34
abbrev sDraw : Stmt := top 35
abbrev sPick : Stmt := top 36
abbrev sMixed : Stmt := top 37
/-- at p a stream that drew at most n times -/
def Src (n : Nat) (H : Hp) (p : Addr) : Prop := ∃ d s c : Int, H p = some (.lst [.int d, .int s, .int c]) ∧ 0 ≤ s ∧ s < 4294967296 ∧ 0 ≤ c ∧ c ≤ (n : Int)
theorem Src.mono {n m : Nat} {H : Hp} {p : Addr} (h : Src n H p) (l : n ≤ m) : Src m H p := by
  obtain ⟨d, s, c, a1, a2, a3, a4, a5⟩ := h
  exact ⟨d, s, c, a1, a2, a3, a4, by omega⟩
/-- all but the stream stands -/
def ButS (p : Addr) (H H' : Hp) : Prop := ∀ b o, b ≠ p → H b = some o → H' b = some o
theorem ButS.refl {p : Addr} {H : Hp} : ButS p H H := fun _ _ _ h => h
theorem ButS.trans {p : Addr} {H H1 H2 : Hp} (a : ButS p H H1) (b : ButS p H1 H2) : ButS p H H2 := fun x o n e => b x o n (a x o n e)
theorem ButS.same {p : Addr} {H H' : Hp} (a : Same H H') : ButS p H H' := fun x o _ e => a x o e
theorem ButS.put {p : Addr} {H : Hp} {u : HO} : ButS p H (upd H p u) := fun b o h e => by
  rw [upd_ne h]
  exact e
theorem Same.new {H : Hp} {q : Addr} {u : HO} (h : H q = none) : Same H (upd H q u) := fun b o e => by
  rw [upd_ne (ne_of_none e h)]
  exact e
/-- a comprehension whose list is known turn by turn -/
def AccP (D : Addr) (H1 : Hp) (acc : Nat → List V) (i : Nat) (H : Hp) : Prop := ButS D H1 H ∧ H D = some (.lst (acc i))
theorem acc_start {D : Addr} {H1 : Hp} {acc : Nat → List V} (a0 : acc 0 = []) : AccP D H1 acc 0 (upd H1 D (.lst [])) := ⟨ButS.put, by rw [a0]; exact upd_same⟩
theorem acc_in {D : Addr} {H1 H H4 : Hp} {acc : Nat → List V} {i : Nat} {y : V} (q : AccP D H1 acc i H) (e : Same H H4) (l : (acc i).length < sizeLine) (h : acc (i + 1) = acc i ++ [y]) : ∃ a, H4 D = some (.lst a) ∧ a.length < sizeLine ∧ AccP D H1 acc (i + 1) (upd H4 D (.lst (a ++ [y]))) :=
  ⟨acc i, e _ _ q.2, l, (q.1.trans (ButS.same e)).trans ButS.put, by rw [upd_same, h]⟩
theorem acc_out {D : Addr} {H1 H H3 : Hp} {acc : Nat → List V} {i : Nat} (q : AccP D H1 acc i H) (e : Same H H3) (h : acc (i + 1) = acc i) : AccP D H1 acc (i + 1) H3 := ⟨q.1.trans (ButS.same e), by rw [h]; exact e _ _ q.2⟩
theorem acc_same {D : Addr} {H0 H1 H : Hp} {acc : Nat → List V} {i : Nat} (q : AccP D H1 acc i H) (e : Same H0 H1) (n : H1 D = none) : Same H0 H := fun b o h => q.1 b o (ne_of_none (e _ _ h) n) (e _ _ h)
/-- the list that a map makes, turn by turn -/
def mapTo (xs : List V) (i : Nat) : List V := xs.take i
theorem mapTo_succ {xs : List V} {i : Nat} {y : V} (h : xs[i]? = some y) : mapTo xs (i + 1) = mapTo xs i ++ [y] := by
  unfold mapTo
  rw [List.take_add_one, h]
  rfl
theorem mapTo_len {xs : List V} {i n : Nat} (h : xs.length < n) : (mapTo xs i).length < n := by
  unfold mapTo
  rw [List.length_take]
  omega
theorem mapTo_all {xs : List V} : mapTo xs xs.length = xs := List.take_length ..
end OB
namespace OB
open PySem PySem.Spec PyProof.Rows L2
structure TxtD (mg : Str → Option Value) : Prop where
  abs : mg "abs" = none
  int : mg "int" = none
  sum : mg "sum" = none
  list : mg "list" = none
  len : mg "len" = none
  rng : mg "range" = none
  en : mg "enumerate" = none
def spSource (K : PySem.W.Frag) : Sp := fun vs H Q _ => ∃ (a : Addr) (k : Nat) (ns : List Int), vs = [.ref a, .int (k : Int)] ∧ SqL K H a (ns.map V.int) ∧ ns.length ≤ 100 ∧ k < 1000 ∧ ∀ H' p, H p = none → Same H H' → Src 0 H' p → Q (.ref p) H'
section
variable {P : Program} {w : World} {K : PySem.W.Frag} {mg : Str → Option Value} {base : Heap}
theorem scSource : FnScope ["script", "place", "cell", "seed", "other"] ["script", "place"] (defScope sSource) := ⟨rfl, rfl, rfl, by decide +kernel, rfl, by decide +kernel, by decide +kernel⟩
theorem cut_int (ns : List Int) (o : Option Int) : ∃ ms : List Int, cutV (ns.map V.int) none o = ms.map V.int := ⟨(ns.drop (HT.sIx ns.length 0 none)).take (HT.sIx ns.length ns.length o - HT.sIx ns.length 0 none), by simp [cutV, List.map_take, List.map_drop]⟩
theorem pe_imp {X : Cx} {e : Expr} {t t' : TE} (h : PE X e t) (i : ∀ σ H Q, t' σ H Q → t σ H Q) : PE X e t' := ⟨fun pins s σ H Q I q => h.run pins s σ H Q I (i _ _ _ q)⟩
def tCell (K : PySem.W.Frag) : TE := fun σ H Q => ∃ (a : Addr) (k : Nat) (ns : List Int), σ[0]? = some (some (.ref a)) ∧ σ[1]? = some (some (.int (k : Int))) ∧ SqL K H a (ns.map V.int) ∧ k < 1000 ∧ ∀ c H', Same H H' → Q (.int c) H'
theorem ok_source {f : Addr} {fd : FuncData} (F : Fun K "_law_source" "_law_source" sSource f fd) (T : TxtD mg) : FnOk P w K mg base CX0 1 f fd ["script", "place"] (spSource K) := by
  refine F.ok scSource (fun vs H Q E h => ?_) (fun cdv A outer s H vs Q E hr h => ?_)
  · obtain ⟨a, k, ns, rfl, _⟩ := h
    rfl
  · obtain ⟨a, k, ns, rfl, hs, hn, hk, q⟩ := h
    have nd := scSource.nd
    refine ⟨_, pss_cons (ps_set (i := 2) nd rfl (Or.inl rfl) (pe_imp (t' := tCell K) (pe_ifExp (pt_cmpR op_lt (pv 1) (pe_callB call_len_seq (by rfl) T.len PySem.boot_len (pa_cons (pv 0) pa_nil)) (nomark _)) (pe_ix ix_list (pv 0) (pv 1) (fun _ _ => rfl))
        (pe_op op_add (pe_op op_add (pe_op op_mod (pe_callTy call_int1 (by rfl) T.int (by decide +kernel) (pa_cons (pe_callB (cr_sum rfl) (by rfl) T.sum (by decide +kernel) (pa_cons (pe_slice sl_list (pv 0) po_none (po_some pe_int)) pa_nil)) pa_nil)) pe_int) (pe_op op_mul pe_int (pv 1))) pe_int)) (fun σ G Q h => ?_)))
      (pss_cons (ps_set (i := 3) nd rfl (Or.inl rfl) (pe_op op_add (pe_op op_mul pe_int (pv 1)) pe_int))
      (pss_cons (ps_for PassesOwn.never rfl (pi_list (pv 0)) (pg_name (i := 4) nd rfl (Or.inl rfl))
        (pss_one (ps_set (i := 3) nd rfl (Or.inl rfl) (pe_op op_mod (pe_callTy call_int1 (by rfl) T.int (by decide +kernel) (pa_cons (pe_op op_add (pe_op op_mul (pv 3) pe_int) (pv 4)) pa_nil)) pe_int))))
      (pss_one (ps_ret (pe_lst (pa_cons (pe_ifExp (pt_cmpR op_ge (pv 2) (pe_op op_pow pe_int pe_int) (nomark _)) (pv 2) pe_int)
        (pa_cons (pe_op op_mod (pe_callTy call_int1 (by rfl) T.int (by decide +kernel) (pa_cons (pe_op op_add (pv 3) (pe_op op_mul pe_int (pv 2))) pa_nil)) pe_int) (pa_cons pe_int pa_nil)))))))), ?_⟩
    · obtain ⟨a, k, ns, s0, s1, hs, hk, q⟩ := h
      refine ⟨_, s1, _, s0, a, _, rfl, .inl hs, k, _, rfl, rfl, _, rfl, ?_⟩
      refine ite2 (fun h => ?_) (fun h => ?_)
      · have hk2 : k < ns.length := by
          have z := of_decide_eq_true h
          rw [List.length_map] at z
          omega
        exact ⟨_, s0, _, s1, a, _, k, .int ns[k], rfl, rfl, hs, atI_nat (by rw [List.getElem?_map, List.getElem?_eq_getElem hk2] <;> rfl), q _ _ (Same.refl _)⟩
      · refine ⟨_, s0, 1, rfl, a, _, rfl, hs, fun b nb => ?_⟩
        obtain ⟨ms, hm⟩ := cut_int ns (some 1)
        rw [hm]
        exact ⟨b, ms, rfl, SqL.of upd_same, .inl ⟨_, rfl, _, 1000003, rfl, rfl, (by show (0 : Int) < 1000003; decide), _, s1, 13, k, rfl, rfl, .inl ⟨by decide, by decide⟩, _, _, rfl, rfl, _, 3, rfl, rfl, q _ _ (Same.new nb)⟩⟩
    · refine ⟨a, k, ns, rfl, rfl, hs, hk, fun c H1 e1 => ?_⟩
      have hs1 : SqL K H1 a (ns.map V.int) := Same.seq e1 hs
      refine ⟨_, rfl, 7919, k, rfl, rfl, .inl ⟨by decide, by decide⟩, _, 17, rfl, rfl, ?_⟩
      refine ⟨_, rfl, a, rfl, ⟨_, hs1⟩, ?_⟩
      refine for_it (walk_list (xs := ns.map V.int)) (fun _ σ G => (∃ (sd : Int) (o : Option V), σ = [some (.ref a), some (.int (k : Int)), some (.int c), some (.int sd), o]) ∧ G = H1) ⟨⟨_, _, rfl⟩, rfl⟩ (fun i σ G _ z => by rw [z.2]; exact hs1) (fun i x σ G G' hi z y => ?_) (fun σ G z => ?_)
      · obtain ⟨⟨sd, o, rfl⟩, rfl⟩ := z
        obtain ⟨rfl, hx⟩ := y
        rw [List.getElem?_map] at hx
        obtain ⟨v, hv, rfl⟩ := Option.map_eq_some_iff.mp hx
        exact ⟨_, rfl, _, 37, rfl, rfl, .inr ⟨by decide, by decide⟩, _, rfl, _, _, rfl, rfl, .inl ⟨_, rfl, _, 2147483629, rfl, rfl, (by show (0 : Int) < 2147483629; decide), ⟨_, _, rfl⟩, rfl⟩⟩
      · obtain ⟨⟨sd, o, rfl⟩, rfl⟩ := z
        have fin : ∀ d : Int, ∀ p, G p = none → Q (.ref p) (upd G p (.lst [.int d, .int ((sd + 48271 * c) % 2147483629), .int 0])) := fun d p hp => by
          refine q _ p (e1.free hp) (e1.trans (Same.new hp)) ⟨d, _, 0, upd_same, ?_, ?_, by omega, by omega⟩
          · exact Int.emod_nonneg _ (by decide)
          · have := Int.emod_lt_of_pos (sd + 48271 * c) (show (0 : Int) < 2147483629 by decide)
            omega
        refine ⟨_, rfl, 10, 18, rfl, rfl, ⟨by decide, by decide, by decide⟩, c, _, rfl, rfl, _, rfl, ?_⟩
        refine ite2 (fun h => ⟨_, rfl, ?_⟩) (fun h => ?_)
        all_goals exact ⟨_, rfl, _, rfl, 48271, c, rfl, rfl, .inl ⟨by decide, by decide⟩, sd, _, rfl, rfl, .inl ⟨_, rfl, _, 2147483629, rfl, rfl, (by show (0 : Int) < 2147483629; decide), by show 3 ≤ sizeLine; decide, fun p hp => fin _ p hp⟩⟩
end
end OB
namespace OB
open PySem PySem.Spec PyProof.Rows L2
theorem SqL.but {K : PySem.W.Frag} {p t : Addr} {H H' : Hp} {xs : List V} (h : SqL K H t xs) (n : t ≠ p) (b : ButS p H H') : SqL K H' t xs := by
  rcases h with (h | ⟨o, h⟩) | h
  · exact .inl (.inl (b _ _ n h))
  · exact .inl (.inr ⟨o, b _ _ n h⟩)
  · exact .inr h
theorem Src.but {n : Nat} {p : Addr} {H : Hp} {q : Addr} {u : HO} (h : Src n H p) (e : H q = none) : Src n (upd H q u) p := by
  obtain ⟨d, s, c, h, r⟩ := h
  exact ⟨d, s, c, by rw [upd_ne (ne_of_none h e)]; exact h, r⟩
theorem Src.ne {n : Nat} {p : Addr} {H : Hp} {q : Addr} (h : Src n H p) (e : H q = none) : q ≠ p := fun z => by
  obtain ⟨d, s, c, h, r⟩ := h
  rw [z, h] at e
  cases e
theorem Src.put {n : Nat} {p : Addr} {H : Hp} {q : Addr} {u : HO} (h : Src n H p) (e : q ≠ p) : Src n (upd H q u) p := by
  obtain ⟨d, s, c, h, r⟩ := h
  exact ⟨d, s, c, by rw [upd_ne e.symm]; exact h, r⟩
theorem Src.same {n : Nat} {p : Addr} {H H' : Hp} (S : Src n H p) (e : Same H H') : Src n H' p := by
  obtain ⟨a, b, c, hp, r⟩ := S
  exact ⟨a, b, c, e _ _ hp, r⟩
theorem Src.free {n : Nat} {p : Addr} {H H' : Hp} {q : Addr} (S : Src n H' p) (b : ButS p H H') (h : H' q = none) : H q = none := by
  cases e : H q with
  | none => rfl
  | some o =>
    have z := b q o (S.ne h) e
    rw [h] at z
    cases z
def spDraw : Sp := fun vs H Q _ => ∃ (p : Addr) (many : Int) (n : Nat), vs = [.ref p, .int many] ∧ Src n H p ∧ n < 1000000000 ∧ 0 < many ∧ many.natAbs < 2 ^ 4096 ∧ ∀ H' m, ButS p H H' → Src (n + 1) H' p → 0 ≤ m → m < many → Q (.int m) H'
def spPick (K : PySem.W.Frag) : Sp := fun vs H Q _ => ∃ (p t : Addr) (xs : List V) (n : Nat), vs = [.ref p, .ref t] ∧ Src n H p ∧ n < 1000000000 ∧ SqL K H t xs ∧ t ≠ p ∧ 0 < xs.length ∧ xs.length < 1000000 ∧
  ∀ H' (j : Nat) x, ButS p H H' → Src (n + 1) H' p → xs[j]? = some x → Q x H'
theorem small_many {n : Nat} (h : n < 1000000) : ((n : Int)).natAbs < 2 ^ 4096 := by
  have e : ((n : Int)).natAbs = n := Int.natAbs_natCast n
  rw [e]
  exact Nat.lt_of_lt_of_le h (Nat.le_trans (by decide : 1000000 ≤ 2 ^ 20) (Nat.pow_le_pow_right (by decide) (by decide)))
section
variable {P : Program} {w : World} {K : PySem.W.Frag} {mg : Str → Option Value} {base : Heap}
theorem scDraw : FnScope ["draws", "many", "found", "seed"] ["draws", "many"] (defScope sDraw) := ⟨rfl, rfl, rfl, by decide +kernel, rfl, by decide +kernel, by decide +kernel⟩
theorem ok_draw {f : Addr} {fd : FuncData} (F : Fun K "_law_draw" "_law_draw" sDraw f fd) (T : TxtD mg) : FnOk P w K mg base CX0 1 f fd ["draws", "many"] spDraw := by
  refine F.ok scDraw (fun vs H Q E h => ?_) (fun cdv A outer s H vs Q E hr h => ?_)
  · obtain ⟨p, many, n, rfl, _⟩ := h
    rfl
  · obtain ⟨p, many, n, rfl, ⟨d, sd, c, S, s0, s1, c0, c1⟩, hn, hm, hm2, k⟩ := h
    have nd := scDraw.nd
    refine ⟨_, pss_cons (ps_if (pt_cmpR op_gt (pe_ix ix_list (pv 0) pe_int (fun _ _ => rfl)) pe_int (nomark _))
        (pss_cons (ps_set (i := 2) nd rfl (Or.inl rfl) (pe_op op_mod (pe_callTy call_int1 (by rfl) T.int (by decide +kernel) (pa_cons (pe_ix ix_list (pv 0) pe_int (fun _ _ => rfl)) pa_nil)) (pv 1)))
        (pss_cons (ps_asg (pe_op op_fdivW (pe_ix ix_list (pv 0) pe_int (fun _ _ => rfl)) (pv 1)) (pg_sub (pv 0) pe_int set_list))
        (pss_one (ps_ret (pv 2))))) pss_nil)
      (pss_cons (ps_asg (pe_op op_add (pe_ix ix_list (pv 0) pe_int (fun _ _ => rfl)) pe_int) (pg_sub (pv 0) pe_int set_list))
      (pss_cons (ps_set (i := 3) nd rfl (Or.inl rfl) (pe_op op_mod (pe_op op_pow (pe_callTy call_int1 (by rfl) T.int (by decide +kernel) (pa_cons (pe_op op_add (pe_ix ix_list (pv 0) pe_int (fun _ _ => rfl)) (pe_op op_mul pe_int (pe_ix ix_list (pv 0) pe_int (fun _ _ => rfl)))) pa_nil)) pe_int) pe_int))
      (pss_one (ps_ret (pe_op op_mod (pe_op op_fdiv (pe_op op_mod (pe_callTy call_int1 (by rfl) T.int (by decide +kernel) (pa_cons (pe_op op_mul (pe_op op_add (pv 3) (pe_ix ix_list (pv 0) pe_int (fun _ _ => rfl))) pe_int) pa_nil)) pe_int) pe_int) (pv 1)))))), ?_⟩
    refine ⟨_, rfl, p, _, 0, .int d, rfl, rfl, SqL.of S, rfl, d, 0, rfl, rfl, _, rfl, ?_⟩
    refine ite2 (fun h => ?_) (fun h => ?_)
    · refine ⟨_, rfl, p, _, 0, .int d, rfl, rfl, SqL.of S, rfl, .inl ⟨d, rfl, _, rfl, d, many, rfl, rfl, hm, ?_⟩⟩
      refine ⟨_, rfl, p, _, 0, .int d, rfl, rfl, SqL.of S, rfl, _, rfl, d, many, rfl, rfl, wide_div hm hm2 (by decide) (by decide), _, rfl, p, _, 0, 0, rfl, rfl, S, rfl, ?_⟩
      exact ⟨_, rfl, k _ (d % many) ButS.put ⟨_, _, _, upd_same, s0, s1, c0, by omega⟩ (Int.emod_nonneg _ (by omega)) (Int.emod_lt_of_pos _ hm)⟩
    · refine ⟨_, rfl, p, _, 2, .int c, rfl, rfl, SqL.of S, rfl, c, 1, rfl, rfl, _, rfl, p, _, 2, 2, rfl, rfl, S, rfl, ?_⟩
      have B : ButS p H (upd H p (.lst [.int d, .int sd, .int (c + 1)])) := ButS.put
      have S2 : (upd H p (.lst [.int d, .int sd, .int (c + 1)])) p = some (.lst [.int d, .int sd, .int (c + 1)]) := upd_same
      show tSeq _ _ _ _ (upd H p (.lst [.int d, .int sd, .int (c + 1)]))
      generalize upd H p (.lst [.int d, .int sd, .int (c + 1)]) = H2 at B S2 ⊢
      have bound : -(2 ^ 64) < sd + 7919 * (c + 1) ∧ sd + 7919 * (c + 1) < 2 ^ 64 := by
        have : (n : Int) < 1000000000 := by omega
        constructor <;> omega
      refine ⟨_, rfl, p, _, 1, .int sd, rfl, rfl, SqL.of S2, rfl, _, rfl, p, _, 2, .int (c + 1), rfl, rfl, SqL.of S2, rfl, 7919, c + 1, rfl, rfl, .inl ⟨by decide, by decide⟩, sd, _, rfl, rfl, .inl ⟨_, rfl, _, 5, rfl, rfl, ⟨by decide, by decide, by omega⟩, _, 2147483647, rfl, rfl, (by show (0 : Int) < 2147483647; decide), ?_⟩⟩
      refine ⟨_, rfl, _, rfl, p, _, 2, .int (c + 1), rfl, rfl, SqL.of S2, rfl, _, c + 1, rfl, rfl, _, 40692, rfl, rfl, .inr ⟨by decide, by decide⟩, .inl ⟨_, rfl, _, 2147483629, rfl, rfl, (by show (0 : Int) < 2147483629; decide), _, 16, rfl, rfl, ⟨by decide, by decide⟩, _, rfl, _, many, rfl, rfl, hm, ?_⟩⟩
      exact k _ _ B ⟨_, _, _, S2, s0, s1, by omega, by omega⟩ (Int.emod_nonneg _ (by omega)) (Int.emod_lt_of_pos _ hm)
theorem scPick : FnScope ["draws", "some"] ["draws", "some"] (defScope sPick) := ⟨rfl, rfl, rfl, by decide +kernel, rfl, by decide +kernel, by decide +kernel⟩
theorem ok_pick {f fD : Addr} {fd fdD : FuncData} (F : Fun K "_law_pick" "_law_pick" sPick f fd) (T : TxtD mg) (GD : FnOk P w K mg base CX0 1 fD fdD ["draws", "many"] spDraw) (gD : mg "_law_draw" = some (.ref fD)) (kD : PySem.W.keepIn K (.ref fD) = true) (bD : Binds K fdD ["draws", "many"] []) : FnOk P w K mg base CX0 2 f fd ["draws", "some"] (spPick K) := by
  refine F.ok scPick (fun vs H Q E h => ?_) (fun cdv A outer s H vs Q E hr h => ?_)
  · obtain ⟨p, t, xs, n, rfl, _⟩ := h
    rfl
  · obtain ⟨p, t, xs, n, rfl, S, hn, ht, nt, x1, x2, k⟩ := h
    refine ⟨_, pss_one (ps_ret (pe_ix ix_list (pv 1) (pe_call GD hr (by rfl) gD kD bD .nil pass0 (pa_cons (pv 0) (pa_cons (pe_callB call_len_seq (by rfl) T.len PySem.boot_len (pa_cons (pv 1) pa_nil)) pa_nil))) (fun _ _ => rfl))), ?_⟩
    refine ⟨_, rfl, _, rfl, _, rfl, t, xs, rfl, .inl ht, p, (xs.length : Int), n, rfl, S, hn, by omega, small_many x2, fun H' m B S' h1 h2 => ?_⟩
    have e : (m.toNat : Int) = m := Int.toNat_of_nonneg h1
    have hj : m.toNat < xs.length := by omega
    obtain ⟨x, q⟩ : ∃ x, xs[m.toNat]? = some x := ⟨_, List.getElem?_eq_getElem hj⟩
    exact ⟨t, xs, m, x, rfl, rfl, SqL.but ht nt B, e ▸ atI_nat q, k _ _ _ B S' q⟩
end
end OB
namespace OB
open PySem PySem.Spec PyProof.Rows
open Sem (wp)
/-! ### isinstance of a def -/
theorem fn_class : typeLookup (.type "function") "__class__" = pure (some (.builtin "object.__class__")) := by
  rw [typeLookup_type, builtinLookup_eq_fast]
  kernel_rfl
theorem fn_owner : isSubtype (.type "function") (.type (".".intercalate ("object.__class__".cutAt '.').dropLast)) = pure true := by
  rw [F.owner_object_class, isSubtype_type]
  kernel_rfl
theorem fn_slot : Slot "function" "__getattribute__" "object.__getattribute__" := by
  refine Slot.of (owner := "object") (n := "__getattribute__") ?_ (by decide +kernel) (by decide +kernel) (by decide +kernel) ?_ ?_
  · rw [typeLookup_type, builtinLookup_eq_fast]
    kernel_rfl
  · first
      | exact .inl (by decide +kernel)
      | exact .inr (by decide +kernel)
  · rw [isSubtype_type]
    kernel_rfl
section
variable {prog : Program} {w : World} {A : Around} {E : Value → Shared → Prop} {h : Heap} {g : Array GenState} {d : Drawn} {t : Nat} {os : OsState} {a : Addr} {o : Obj}
theorem fn_get {R : Result → Shared → Prop} (hx : h.get? a = some o) (hc : o.cls = .type "function") (hq : R (.ok (.ret (.type "function"))) ⟨h, g, d, t, os⟩) :
    codeAny (model prog w) A (.call (.builtin "getset_descriptor.__get__") ⟨[.builtin "object.__class__", .ref a, .type "function"], []⟩) R ⟨h, g, d, t, os⟩ := by
  have isF : (⟨h, g, d, t, os⟩ : Shared).TypeIs (.ref a) "function" := ⟨_, hx, hc⟩
  have isD : (⟨h, g, d, t, os⟩ : Shared).TypeIs (.builtin "object.__class__") "getset_descriptor" := F.typeOf_object_class
  have own := fn_owner
  refine codeAny_call_builtin F.slot_gs_get.plain F.entry_gs_get (F.slot_gs_get.check _ _ _ _ _ _ _ _ isD (F.args_gs_get _ _ _) ?_)
  repeat any_goals first | assumption | wp_step
  refine ⟨Code.quiet_builtin _ (by decide +kernel), codeAny_builtin F.entry_object_class ?_⟩
  repeat any_goals first | assumption | wp_step
theorem fn_entry {tk : Tok} {Q : Fin → Shared → Prop} (hx : h.get? a = some o) (hc : o.cls = .type "function") (hq : Q (.done (.ret (.type "function"))) ⟨h, g, d, t, os⟩) :
    wpAny (model prog w) A (Builtin.«object.__getattribute__» ⟨[.ref a, .str "__class__" tk], []⟩) Q E ⟨h, g, d, t, os⟩ := by
  have isF : (⟨h, g, d, t, os⟩ : Shared).TypeIs (.ref a) "function" := ⟨_, hx, hc⟩
  have isD : (⟨h, g, d, t, os⟩ : Shared).TypeIs (.builtin "object.__class__") "getset_descriptor" := F.typeOf_object_class
  have k1 := fn_class
  have k2 := F.typeOf_object_class
  have k3 := F.slot_gs_get.lookup
  have k4 := F.slot_gs_set.lookup
  repeat any_goals first | assumption | wp_step
  refine fn_get hx hc ?_
  repeat any_goals first | assumption | wp_step
theorem fn_call {tk : Tok} {R : Result → Shared → Prop} (hx : h.get? a = some o) (hc : o.cls = .type "function") (hq : R (.ok (.ret (.type "function"))) ⟨h, g, d, t, os⟩) :
    codeAny (model prog w) A (.call (.builtin "object.__getattribute__") ⟨[.ref a, .str "__class__" tk], []⟩) R ⟨h, g, d, t, os⟩ := by
  have isF : (⟨h, g, d, t, os⟩ : Shared).TypeIs (.ref a) "function" := ⟨_, hx, hc⟩
  exact codeAny_call_builtin fn_slot.plain F.entry_object_getattribute (fn_slot.check _ _ _ _ _ _ _ _ isF (F.args_object_getattribute_2 _ _) (fn_entry hx hc hq))
theorem fn_by {tk : Tok} {Q : Value → Shared → Prop} (hx : h.get? a = some o) (hc : o.cls = .type "function") (hq : Q (.type "function") ⟨h, g, d, t, os⟩) : wpAny (model prog w) A (getAttrBy (.ref a) (.str "__class__" tk) false) Q E ⟨h, g, d, t, os⟩ := by
  have isF : (⟨h, g, d, t, os⟩ : Shared).TypeIs (.ref a) "function" := ⟨_, hx, hc⟩
  have k1 := fn_slot.lookup
  have k2 := fn_slot.bind (.ref a)
  repeat any_goals first | assumption | wp_step
  refine fn_call hx hc ?_
  repeat any_goals first | assumption | wp_step
theorem fn_attr {Q : Option Value → Shared → Prop} (hx : h.get? a = some o) (hc : o.cls = .type "function") (hq : Q (some (.type "function")) ⟨h, g, d, t + 1, os⟩) : wpAny (model prog w) A (getAttr? (.ref a) "__class__") Q E ⟨h, g, d, t, os⟩ := by
  unfold getAttr? getAttrBy?
  repeat any_goals first | assumption | with_reducible apply fn_by hx hc | wp_step
theorem kit_fn {K : PySem.W.Frag} {a : Addr} : PySem.W.KitX K (.ref a) (.type "function") (PySem.W.KitAt a "function") := PySem.W.kitx_of PySem.W.kitAt_ty (fun {_ _ _ _ _ s} p k => by
  obtain ⟨h, g, d, t, os⟩ := s
  obtain ⟨o, h1, h2⟩ := p
  exact fn_attr h1 h2 k)
end
end OB
namespace OB
open PySem PySem.Spec PyProof.Rows L2
/-! ### any object of the laws -/
/-- an own class whose instances stand about: no kind of a number, of a text, of a row -/
structure OwnC (K : PySem.W.Frag) (C : Addr) : Prop where
  cl : Cls K C
  ha : PySem.W.findIn K (.ref C) "__class__" = some (some (.builtin "object.__class__"))
  hn : PySem.W.specialIn K (.builtin "object.__class__") "__get__" = some (some (.builtin "getset_descriptor.__get__"))
  htk : PySem.W.takesIn K (.builtin "object.__class__") = some true
  hm : PySem.W.mroIn K C (.type "object") = some true
  no : ∀ T ∈ ["int", "bool", "str", "list", "tuple", "dict"], PySem.W.kitOne K (.ref C) (.type T) = some false
inductive Kd where
  | non | bl | int | str | lst | tup | dct | fn | ins
  deriving DecidableEq
inductive Any (K : PySem.W.Frag) (H : Hp) : V → Kd → Prop where
  | non : Any K H .non .non
  | bl (b : Bool) : Any K H (.bl b) .bl
  | int (i : Int) : Any K H (.int i) .int
  | str {x : Str} (h : x.length ≤ 100) : Any K H (.str x) .str
  | lst {a : Addr} {xs : List V} : H a = some (.lst xs) → Any K H (.ref a) .lst
  | tup {a : Addr} {xs : List V} : H a = some (.tup xs) → Any K H (.ref a) .tup
  | dct {a : Addr} {kvs : List (Key × V)} : H a = some (.dK kvs) → Any K H (.ref a) .dct
  /-- a dict whose keys are no ints and no texts -/
  | odt {a : Addr} {φ : Heap → Prop} (e : H a = some (.ext φ)) (c : ∀ h : Heap, φ h → ∃ o, h.get? a = some o ∧ o.cls = .type "dict") : Any K H (.ref a) .dct
  | fn {a : Addr} {o : Obj} : K.lookup a = some o → o.cls = .type "function" → Any K H (.ref a) .fn
  | ins {a C dx : Addr} {fs : List (Str × V)} : H a = some (.ins C dx fs) → OwnC K C → Any K H (.ref a) .ins
theorem Any.same {K : PySem.W.Frag} {H H' : Hp} {v : V} {k : Kd} (h : Any K H v k) (e : Same H H') : Any K H' v k := by
  cases h with
  | non => exact .non
  | bl b => exact .bl b
  | int i => exact .int i
  | str h => exact .str h
  | lst q => exact .lst (e _ _ q)
  | tup q => exact .tup (e _ _ q)
  | dct q => exact .dct (e _ _ q)
  | odt q c => exact .odt (e _ _ q) c
  | fn q c => exact .fn q c
  | ins q o => exact .ins (e _ _ q) o
def Kd.isInt (k : Kd) : Bool := match k with
  | .int => true
  | _ => false
def Kd.isBl (k : Kd) : Bool := match k with
  | .bl => true
  | _ => false
def Kd.isStr (k : Kd) : Bool := match k with
  | .str => true
  | _ => false
def Kd.isLst (k : Kd) : Bool := match k with
  | .lst => true
  | _ => false
def Kd.isTup (k : Kd) : Bool := match k with
  | .tup => true
  | _ => false
def Kd.isDct (k : Kd) : Bool := match k with
  | .dct => true
  | _ => false
/-- a value's kind -/
inductive TyA (K : PySem.W.Frag) (H : Hp) : V → Value → Prop where
  | x {v : V} {t : Value} (h : TyX K H v t) : TyA K H v t
  | fn {a : Addr} {o : Obj} (e : K.lookup a = some o) (c : o.cls = .type "function") : TyA K H (.ref a) (.type "function")
  | odt {a : Addr} {φ : Heap → Prop} (e : H a = some (.ext φ)) (c : ∀ h : Heap, φ h → ∃ o, h.get? a = some o ∧ o.cls = .type "dict") : TyA K H (.ref a) (.type "dict")
def rIsA (K : PySem.W.Frag) : List V → Hp → VK → Prop := fun xs H Q => ∃ (x c : V) (t u : Value) (b : Bool), xs = [x, c] ∧ ClsV c u ∧ TyA K H x t ∧ PySem.W.kitOne K t u = some b ∧ Q (.bl b) H
def rIsAT (K : PySem.W.Frag) : List V → Hp → VK → Prop := fun xs H Q => ∃ (x : V) (tp : Addr) (cs : List V) (t : Value) (us : List Value) (b : Bool), xs = [x, .ref tp] ∧ H tp = some (.tup cs) ∧ Paired ClsV cs us ∧ TyA K H x t ∧ PySem.W.kitAny K t us = some b ∧ Q (.bl b) H
section
variable {X : Cx} {pins : List (Addr × Obj)} {σ : L2.St} {H : Hp} {s : Shared}
theorem kitA_of {x : V} {u t : Value} (I : Inv X pins σ H s) (rx : RelV x u) (ty : TyA X.K H x t) : ∃ P : Heap → Prop, PySem.W.KitX X.K u t P ∧ P s.heap ∧ u ≠ .builtin "__main__.__loader__#opaque" := by
  cases ty with
  | x h => exact kit_of I rx h
  | @odt a φ e c =>
    cases (show u = Value.ref a from rx)
    have z : φ s.heap ∧ _ := I.hok a _ e
    exact ⟨_, PySem.W.kitx_dict, c _ z.1, fun z => nomatch z⟩
  | @fn a o e c =>
    cases (show u = Value.ref a from rx)
    exact ⟨_, kit_fn, ⟨o, I.kIn a o e, c⟩, fun z => nomatch z⟩
theorem call_isA : CallR X (.builtin "isinstance") (rIsA X.K) := by
  intro pins s σ H xs us Q I r h
  obtain ⟨x, c, t, u, b, rfl, k, ty, e, q⟩ := h
  obtain ⟨u1, u2, rfl, r1, r2⟩ := vals2 r
  obtain rfl := k.eq r2
  obtain ⟨P, Z, p, hx⟩ := kitA_of I r1 ty
  exact PySem.W.kia_one Z I.kIn p e hx fun tk => ⟨.bl b, H, I.tok tk, rfl, q⟩
theorem call_isAT : CallR X (.builtin "isinstance") (rIsAT X.K) := by
  intro pins s σ H xs us Q I r h
  obtain ⟨x, tp, cs, t, ws, b, rfl, hT, k, ty, e, q⟩ := h
  obtain ⟨u1, u2, rfl, r1, r2⟩ := vals2 r
  cases (show u2 = Value.ref tp from r2)
  obtain ⟨P, Z, p, hx⟩ := kitA_of I r1 ty
  obtain ⟨_, its, rv, o, h1, h2, n, h3⟩ := (show ObjOk X.prog X.w H s.heap tp (.tup cs) from I.hok tp _ hT)
  obtain rfl := ClsV.all k rv
  obtain ⟨oc, od, dt, sl⟩ := o
  simp only at h2 h3
  subst h2 h3
  exact PySem.W.kia_tup Z I.kIn p h1 e hx fun tk => ⟨.bl b, H, I.tok tk, rfl, q⟩
end
/-- what isinstance answers of such an object -/
structure Says6 (K : PySem.W.Frag) (H : Hp) (v : V) (k : Kd) (t : Value) : Prop where
  ty : TyA K H v t
  int : PySem.W.kitOne K t (.type "int") = some (k.isInt || k.isBl)
  bool : PySem.W.kitOne K t (.type "bool") = some k.isBl
  str : PySem.W.kitOne K t (.type "str") = some k.isStr
  list : PySem.W.kitOne K t (.type "list") = some k.isLst
  tuple : PySem.W.kitOne K t (.type "tuple") = some k.isTup
  dict : PySem.W.kitOne K t (.type "dict") = some k.isDct
theorem tyA6 {K : PySem.W.Frag} {H : Hp} {v : V} {k : Kd} {T : String} (h : TyA K H v (.type T)) (a : kitB T "int" = some (k.isInt || k.isBl) ∧ kitB T "bool" = some k.isBl ∧ kitB T "str" = some k.isStr ∧ kitB T "list" = some k.isLst ∧ kitB T "tuple" = some k.isTup ∧ kitB T "dict" = some k.isDct) : Says6 K H v k (.type T) :=
  ⟨h, kit_ty a.1, kit_ty a.2.1, kit_ty a.2.2.1, kit_ty a.2.2.2.1, kit_ty a.2.2.2.2.1, kit_ty a.2.2.2.2.2⟩
theorem Any.says {K : PySem.W.Frag} {H : Hp} {v : V} {k : Kd} (h : Any K H v k) : ∃ t, Says6 K H v k t := by
  cases h with
  | non => exact ⟨_, tyA6 (.x (.base .non)) (by decide +kernel)⟩
  | bl b => exact ⟨_, tyA6 (.x (.base (.bl b))) (by decide +kernel)⟩
  | int i => exact ⟨_, tyA6 (.x (.base (.int i))) (by decide +kernel)⟩
  | @str x h => exact ⟨_, tyA6 (.x (.base (.str x))) (by decide +kernel)⟩
  | lst e => exact ⟨_, tyA6 (.x (.base (.lst e))) (by decide +kernel)⟩
  | tup e => exact ⟨_, tyA6 (.x (.base (.tup e))) (by decide +kernel)⟩
  | dct e => exact ⟨_, tyA6 (.x (.base (.dK e))) (by decide +kernel)⟩
  | odt e c => exact ⟨_, tyA6 (.odt e c) (by decide +kernel)⟩
  | fn e c => exact ⟨_, tyA6 (.fn e c) (by decide +kernel)⟩
  | @ins a C dx fs e o => exact ⟨.ref C, .x (.base (.ins e o.cl o.ha o.hn o.htk o.hm)), o.no _ (by simp), o.no _ (by simp), o.no _ (by simp), o.no _ (by simp), o.no _ (by simp), o.no _ (by simp)⟩
theorem Says6.seq {K : PySem.W.Frag} {H : Hp} {v : V} {k : Kd} {t : Value} (h : Says6 K H v k t) : PySem.W.kitAny K t [.type "list", .type "tuple"] = some (k.isLst || k.isTup) :=
  kitAny_cons h.list (fun e => by rw [e]; exact kitAny_cons h.tuple (fun e2 => by rw [e2]; rfl) fun e2 => by rw [e2]; rfl) fun e => by rw [e]; rfl
end OB
namespace OB
open PySem PySem.Spec PyProof.Rows L2
/-! ### the program's small questions -/
abbrev sIsInt : Stmt := top 4
abbrev sIsList : Stmt := top 6
theorem bootIsi : bootBuiltins "isinstance" = some (.builtin "isinstance") := by decide +kernel
theorem bInt : bootBuiltins "int" = some (.type "int") := by decide +kernel
theorem bBool : bootBuiltins "bool" = some (.type "bool") := by decide +kernel
theorem bStr : bootBuiltins "str" = some (.type "str") := by decide +kernel
theorem bList : bootBuiltins "list" = some (.type "list") := by decide +kernel
theorem bTuple : bootBuiltins "tuple" = some (.type "tuple") := by decide +kernel
theorem bDict : bootBuiltins "dict" = some (.type "dict") := by decide +kernel
structure TxtC (mg : Str → Option Value) : Prop where
  isi : mg "isinstance" = none
  int : mg "int" = none
  bool : mg "bool" = none
  str : mg "str" = none
  list : mg "list" = none
  tuple : mg "tuple" = none
  len : mg "len" = none
  all : mg "all" = none
/-- what is asked of any object and answered by True or False -/
def spAsk (K : PySem.W.Frag) (f : V → Kd → Bool) : Sp := fun vs H Q _ => ∃ (v : V) (k : Kd), vs = [v] ∧ Any K H v k ∧ ∀ H', Same H H' → Q (.bl (f v k)) H'
def numFrom (n : Int) (v : V) (_ : Kd) : Bool := match v with
  | .int i => decide (n ≤ i)
  | _ => false
def fInt (_ : V) (k : Kd) : Bool := k.isInt
def fSeq (_ : V) (k : Kd) : Bool := k.isLst || k.isTup
section
variable {P : Program} {w : World} {K : PySem.W.Frag} {mg : Str → Option Value} {base : Heap}
theorem scIsInt : FnScope ["thing"] ["thing"] (defScope sIsInt) := ⟨rfl, rfl, rfl, by decide +kernel, rfl, by decide +kernel, by decide +kernel⟩
theorem ok_isInt {f : Addr} {fd : FuncData} (F : Fun K "is_integer" "is_integer" sIsInt f fd) (T : TxtC mg) : FnOk P w K mg base CX0 1 f fd ["thing"] (spAsk K fInt) := by
  refine F.ok scIsInt (fun vs H Q E h => ?_) (fun cdv A outer s H vs Q E hr h => ?_)
  · obtain ⟨v, k, rfl, _⟩ := h
    rfl
  · obtain ⟨v, k, rfl, a, q⟩ := h
    obtain ⟨t, S⟩ := a.says
    refine ⟨_, pss_one (ps_ret (pe_and (pe_callB call_isA (by rfl) T.isi bootIsi (pa_cons (pv 0) (pa_cons (pe_bltn (v := .ty "int") (u := .type "int") (by rfl) T.int bInt rfl) pa_nil)))
      (pe_one (pe_not (pe_callB call_isA (by rfl) T.isi bootIsi (pa_cons (pv 0) (pa_cons (pe_bltn (v := .ty "bool") (u := .type "bool") (by rfl) T.bool bBool rfl) pa_nil))))))), ?_⟩
    refine ⟨_, rfl, v, .ty "int", t, .type "int", _, rfl, .ty _, S.ty, S.int, _, rfl, ?_⟩
    have q' := q H (Same.refl H)
    cases k with
    | int => exact iteT ⟨_, rfl, v, .ty "bool", t, .type "bool", _, rfl, .ty _, S.ty, S.bool, _, rfl, q'⟩
    | bl => exact iteT ⟨_, rfl, v, .ty "bool", t, .type "bool", _, rfl, .ty _, S.ty, S.bool, _, rfl, q'⟩
    | _ => exact iteF q'
theorem scIsList : FnScope ["thing"] ["thing"] (defScope sIsList) := ⟨rfl, rfl, rfl, by decide +kernel, rfl, by decide +kernel, by decide +kernel⟩
theorem ok_isList {f : Addr} {fd : FuncData} (F : Fun K "is_list" "is_list" sIsList f fd) (T : TxtC mg) : FnOk P w K mg base CX0 1 f fd ["thing"] (spAsk K fSeq) := by
  refine F.ok scIsList (fun vs H Q E h => ?_) (fun cdv A outer s H vs Q E hr h => ?_)
  · obtain ⟨v, k, rfl, _⟩ := h
    rfl
  · obtain ⟨v, k, rfl, a, q⟩ := h
    refine ⟨_, pss_one (ps_ret (pe_callB call_isAT (by rfl) T.isi bootIsi (pa_cons (pv 0) (pa_cons (pe_tup (pa_cons (pe_bltn (v := .ty "list") (u := .type "list") (by rfl) T.list bList rfl) (pa_cons (pe_bltn (v := .ty "tuple") (u := .type "tuple") (by rfl) T.tuple bTuple rfl) pa_nil))) pa_nil)))), ?_⟩
    refine ⟨_, rfl, by show 2 ≤ sizeLine; decide, fun tp htp => ?_⟩
    obtain ⟨t, S⟩ := (a.same (Same.new (u := .tup [.ty "list", .ty "tuple"]) htp)).says
    exact ⟨v, tp, _, t, _, _, rfl, upd_same, .cons (.ty _) (.cons (.ty _) .nil), S.ty, S.seq, q _ (Same.new htp)⟩
end
end OB
namespace OB
open PySem PySem.Spec PyProof.Rows L2
/-! ### an own error with a field, raised -/
theorem relO_one {v : V} {u : Value} (r : RelV v u) (f g : Str) : RelO (List.lookup g [(f, v)]) (if g = f then some u else none) := by
  by_cases e : g = f
  · subst e
    rw [if_pos rfl]
    have z : List.lookup g [(g, v)] = some v := by simp [List.lookup]
    rw [z]
    exact r
  · rw [if_neg e]
    have z1 : (g == f) = false := by simpa using e
    have z : List.lookup g [(f, v)] = none := by simp [List.lookup, z1]
    rw [z]
    trivial
def tMkE (C : Addr) (f : Str) (ta : TA) : L2.St → Hp → XK → Prop := fun σ H Q => ta σ H fun vs H1 => ∃ v, vs = [v] ∧ ∀ d, H1 d = none → Q (.ref C) (some d) (upd H1 d (.xd [(f, v)]))
section
variable {X : Cx} {C fI : Addr} {f x : Str} {k : Nat} {a : Expr} {ta : TA} {p pos : Pos}
theorem pmk_err (T : OE.Cl1 X.prog X.K C fI f) (B : OE.Bds f) (hr : Room (k + 1) X.A) (htop : (X.prog.main.scope.names.lookup ("super" : Str)).isSome = false) (hg : Gl X x) (hm : X.mg x = some (.ref C)) (hk : PySem.W.keepIn X.K (.ref C) = true)
    (ex : PySem.W.subIn X.K (.ref C) (.type "BaseException") = some true) (ty : PySem.W.typeIn X.K (.ref C) = some (.type "type")) (ha : PA X [a] ta) (hdb : (x == ("__debug__" : Str)) = false)
    (he : starEach [a] X.env = (false, eval a X.env) :: starEach [] X.env := by rfl) (hpl : (backTo pos (starEach [] X.env)).any (·.1) = false := by rfl) :
    PMk X (.Call (.Name x p) [a] [] pos) (tMkE C f ta) := by
  intro pins s σ H Q I h
  refine wpAny_Call_Name_kw (ld_glob I hg hm ?_ hdb)
  refine PySem.W.callWith_K (h₀ := X.base) I.ok.mod.kin hk (thn (ha.run pos pins s σ H _ I h) fun us s1 hh => ?_) he hpl
  obtain ⟨vs, H1, I1, r1, v, rfl, q1⟩ := hh
  refine ⟨I1.kIn, ?_⟩
  cases r1 with
  | @cons _ u _ _ rv rn =>
    cases rn
    show wpAny _ _ (call (.ref C) [u]) _ _ _
    obtain ⟨nm, qn, N, bs, bm, sn, sub, ab, col, dd, k0, k1, k2, k3, k5, hC, hbm⟩ := T.cls
    obtain ⟨mb, nb, hbi⟩ := I1.mod.blt
    have hlim := I1.mod.nolimit
    have bk0 := I1.bk
    obtain ⟨hp, g, dr, tk, os⟩ := s1
    have kp : ∀ b o, hp.get? b = some o → (OE.newHp hp C [u]).get? b = some o := fun b o e => Heap.get?_push_of_some _ (Heap.get?_push_of_some _ e)
    have bk : ∀ b o, X.base.get? b = some o → (OE.newHp hp C [u]).get? b = some o := fun b o e => kp b o (bk0 b o e)
    have ox : (OE.newHp hp C [u]).get? (hp.objs.size + 1) = some (PySem.HandSPX.excO C hp.objs.size) := by heap_get
    have nx : hp.get? (hp.objs.size + 1) = none := Heap.get?_none_of_le (Nat.le_succ _)
    have nK : X.K.lookup (hp.objs.size + 1) = none := by
      cases z : X.K.lookup (hp.objs.size + 1) with
      | none => rfl
      | some o =>
        have y : hp.get? _ = some o := I1.kIn _ _ z
        rw [nx] at y
        cases y
    refine wpAny_call (OE.call_any F.excBase_ValueError (fun Y => PySem.HandSPX.refsVE_contains Y bm hbm) (I1.kIn _ _ hC) (by show 1 ≤ sizeLine; rw [sizeLine_eq]; omega) (PySem.W.looks_findIn I1.kIn T.iC) (fun self => PySem.W.bind_fn I1.kIn self T.tC) ?_)
    refine OE.init1 T (x := hp.objs.size + 1) (t0 := hp.objs.size) (v := u) (I1.mod.kin.keeps bk) (I1.mod.glob.keeps bk) (nb.keeps bk) hbi htop (hlim.keeps bk) ox nK ?_ (fun fd h1 h2 h3 => BindsTo.of_eq (B fd h1 h2 h3 _ u).1) ?_
    · rw [make_depth]
      have := hr.dp
      omega
    · intro h' tk' d t1 M
      have k' : ∀ b o, hp.get? b = some o → h'.get? b = some o := fun b o e => M.keep b o (Nat.ne_of_lt (Nat.lt_succ_of_lt (Heap.lt_size e))) (kp b o e)
      have hsz : (OE.newHp hp C [u]).objs.size = hp.objs.size + 2 := by rw [OE.newHp, Heap.size_push, Heap.size_push]
      have db : (OE.newHp hp C [u]).objs.size ≤ d := M.dbig
      have db2 : hp.objs.size ≤ d := by omega
      have hns := M.ns
      refine ⟨rfl, ?_⟩
      show MkP X pins σ Q (.ref (hp.objs.size + 1)) ⟨h', g, dr, tk', os⟩
      obtain ⟨G', g1, g2⟩ := restrict h' fun b => decide (b ≠ hp.objs.size + 1)
      have gk : ∀ b, b ≠ hp.objs.size + 1 → G'.get? b = h'.get? b := fun b hb => g1 b (decide_eq_true hb)
      have ge : G'.get? (hp.objs.size + 1) = none := g2 _ (by simp)
      have old : ∀ b o, hp.get? b = some o → G'.get? b = some o := fun b o q => (gk b (Nat.ne_of_lt (Nat.lt_succ_of_lt (Heap.lt_size q)))).trans (k' b o q)
      have made : ObjOk X.prog X.w (upd H1 d (.xd [(f, v)])) G' d (.xd [(f, v)]) := ⟨_, hns.at (fun o q => (gk d M.dne).trans q), fun y => relO_one rv f y⟩
      have J : Inv X pins σ (upd H1 d (.xd [(f, v)])) ⟨G', g, dr, tk', os⟩ := I1.laid (t' := tk') old db2 made
      refine ⟨hp.objs.size + 1, _, _, ⟨G', g, dr, tk', os⟩, _, .ref C, some d, rfl, J, fun b o q => ?_, ge, M.obj, ⟨rfl, rfl⟩, rfl, rfl, ?_, rfl, I1.bare, raises_own ex ty, q1 d (I1.hok.fresh db2)⟩
      · by_cases hb : b = hp.objs.size + 1
        · have q' : G'.get? b = some o := q
          rw [hb, ge] at q'
          cases q'
        · exact (gk b hb).symm.trans q
      · rw [upd_ne (Ne.symm M.dne)]
        exact I1.hok.fresh (Nat.le_succ _)
end
end OB
namespace OB
open PySem PySem.Spec PyProof.Rows L2
open Sem (wp)
/-! ### enumerate over a tuple -/
theorem meets_en1 {v : Value} {o : Obj} {H : Heap → Prop} (B : Begins v o H) :
    Meets (Builtin.«enumerate.__new__» ⟨[.type "enumerate", v], []⟩) (fun _ R s => H s.heap ∧
      R (.ok (.ret (.ref (s.heap.push o).objs.size))) { s with heap := (s.heap.push o).push { cls := .type "enumerate", data := .fields #[.none, .bool false, .ref s.heap.objs.size, rawInt 0, .none, .none] } }) :=
  .of_wp fun prog w A R s hh => by
    obtain ⟨hp, gs, dr, tk, os⟩ := s
    obtain ⟨stands, fin⟩ := hh
    have isE := sub_enumerate
    have begin' : ∀ {A' : Around} {E : Value → Shared → Prop} {Q : Value → Shared → Prop}, Q (.ref hp.objs.size) ⟨hp.push o, gs, dr, tk, os⟩ → wpAny (model prog w) A' (pyIter v) Q E ⟨hp, gs, dr, tk, os⟩ := fun q => B.iter prog w _ _ ⟨hp, gs, dr, tk, os⟩ _ stands q
    wp_walk using begin'
    refine wpAny_stack_any fun st => wpAny_pure ?_
    split
    · rename_i c _ _ _ _ _
      cases (c == Value.type "enumerate") <;> (wp_walk using begin'; exact ⟨_, rfl, fin⟩)
    · wp_walk using begin'
      exact ⟨_, rfl, fin⟩
section
variable {prog : Program} {w : World} {A : Around} {E : Value → Shared → Prop} {s : Shared}
theorem call_en1 {v : Value} {o : Obj} {H : Heap → Prop} {Q : Value → Shared → Prop} (B : Begins v o H) (h1 : H s.heap)
    (fin : ∀ h', IsEnum h' (s.heap.objs.size + 1) s.heap.objs.size 0 .none → h'.get? s.heap.objs.size = some o → h'.objs.size = s.heap.objs.size + 2 → (∀ b o, s.heap.get? b = some o → h'.get? b = some o) → Q (.ref (s.heap.objs.size + 1)) { s with heap := h' }) :
    wpAny (model prog w) A (call (.type "enumerate") [v]) Q E s := by
  refine callType_new F.called_enumerate (by decide) (F.typeCall_enumerate_1 _) (F.newCall_enumerate_1 _) (fun obj => F.args_object_init_2 obj _) F.entry_enumerate_new (meets_en1 B) ⟨h1, ?_⟩
  have sz : (s.heap.push o).objs.size = s.heap.objs.size + 1 := Heap.size_push ..
  show _ ∧ _
  rw [sz]
  have isE : IsEnum ((s.heap.push o).push { cls := .type "enumerate", data := .fields #[.none, .bool false, .ref s.heap.objs.size, rawInt 0, .none, .none] }) (s.heap.objs.size + 1) s.heap.objs.size 0 .none := by
    have z := Heap.get?_push_size (s.heap.push o) (o := { cls := .type "enumerate", data := .fields #[.none, .bool false, .ref s.heap.objs.size, rawInt 0, .none, .none] }) rfl
    rw [sz] at z
    exact z
  exact ⟨⟨_, isE, rfl⟩, fin _ isE (Heap.get?_push_of_some _ (Heap.get?_push_size _ B.free)) (by rw [Heap.size_push, sz]) fun b o x => Heap.get?_push_of_some _ (Heap.get?_push_of_some _ x)⟩
end
/-- the tuple at a, each item in a new pair with its place -/
def IteT (K : PySem.W.Frag) (a : Addr) : It :=
  ⟨fun i H => ∃ (xs : List V) (x : V), SqT K H a xs ∧ xs[i]? = some x, fun i H v H' => ∃ T x, v = .ref T ∧ H T = none ∧ H' = upd H T (.tup [.int (i : Nat), x]) ∧ ∀ xs, SqT K H a xs → xs[i]? = some x, fun i H => ∃ xs : List V, SqT K H a xs ∧ xs.length = i⟩
theorem tup_ne {h : Heap} {a it : Addr} {items : Array Value} {i : Nat} (p : h.IsTuple a items) (q : h.IsTupleIter it a i) : a ≠ it := fun z => by
  obtain ⟨o, e, c, _⟩ := p
  obtain ⟨o2, e2, c2, _⟩ := q
  rw [z, e2] at e
  cases e
  rw [c2] at c
  exact absurd c (by decide)
theorem turn_enT {P : Program} {w : World} {K : PySem.W.Frag} {elts : List Expr} {kk : Nat} {tpos : Pos} (a e it : Addr) :
    Turn P w K (.Tuple elts kk tpos) (IteT K a) [e, it] e (fun i h => (∃ old, IsEnum h e it (0 + (i : Int)) old) ∧ h.IsTupleIter it a i ∧ e ≠ it) where
  mem := by simp
  obj := fun i h st b hb => by
    obtain ⟨⟨old, he⟩, ⟨o, ho, hc, hd⟩, _⟩ := st
    rcases (show b = e ∨ b = it by simpa using hb) with z | z
    · rw [z]
      exact ⟨_, he, fun v q => nomatch q⟩
    · rw [z]
      exact ⟨o, ho, fun v q => by rw [hd] at q; cases q⟩
  keep := fun i h h' st k => by
    obtain ⟨⟨old, he⟩, hi, hne⟩ := st
    exact ⟨⟨old, k e (by simp) _ he⟩, hi.at fun o q => k it (by simp) o q, hne⟩
  item := by
    intro X hP hw hK hc i pins s σ H E I hf st hg
    subst hP hw hK
    obtain ⟨⟨old, he⟩, hit, hne⟩ := st
    obtain ⟨xs, x, hq, hx⟩ := hg
    obtain ⟨its, rv, p, hz⟩ := I.tuple hq
    have p' : s.heap.IsTuple a its.toArray := p
    have ea : e ≠ a := fun z => by
      obtain ⟨o, eo, c, _⟩ := p'
      rw [← z, he] at eo
      cases eo
      exact absurd (show Value.type "enumerate" = Value.type "tuple" from c) (by decide)
    have D := Draws.tuple (prog := X.prog) (w := X.w) (A := X.A.in1) (I.ok.hd hc) it a (tup_ne p' hit) its.toArray
    have G := GoesN.enumFrom (elts := elts) (x1 := kk) (pos := tpos) 0 D e hne (by simp [hne, ea]) (by simp)
    have hi : i < its.toArray.size := by
      have l := rv.length
      have l2 : i < xs.length := (List.getElem?_eq_some_iff.mp hx).1
      simp
      omega
    have hlt : ∀ b ∈ [e, it], b < s.heap.objs.size := fun b hb => by
      rcases (show b = e ∨ b = it by simpa using hb) with z | z
      · rw [z]
        exact Heap.lt_size he
      · rw [z]
        obtain ⟨_, q, _⟩ := hit
        exact Heap.lt_size q
    refine G.goes i s _ _ hi ⟨⟨old, he⟩, hit, p'⟩ fun v h' tk hY st' hk htk => ?_
    obtain ⟨T, t, u, rfl, hT, hu, hTup⟩ := hY
    obtain ⟨⟨old', he'⟩, hit', _⟩ := st'
    have hu' : its[i]? = some u := by simpa using hu
    obtain ⟨u2, hu2, ru⟩ := rv.get hx
    rw [hu'] at hu2
    cases hu2
    obtain ⟨oT, eT, cT, nT, dT⟩ := hTup
    have new : ObjOk X.prog X.w (upd H T (.tup [.int (i : Nat), x])) h' T (.tup [.int (i : Nat), x]) :=
      ⟨by show 2 ≤ sizeLine; decide, [.int (0 + (i : Int)) t, u], .cons ⟨t, by rw [Int.zero_add]⟩ (.cons ru .nil), ⟨oT, eT, cT, nT, dT⟩⟩
    have I1 : Inv X pins σ (upd H T (.tup [.int (i : Nat), x])) { s with heap := h', toks := tk } := I.turnedNew (t' := tk) (ch := [e, it]) hk hf hT new
    exact ⟨.ref T, _, I1, rfl, ⟨T, x, rfl, I.hok.fresh hT, rfl, fun ys hy => by rw [I.tuple_inj hy hq]; exact hx⟩, ⟨⟨old', he'⟩, hit', hne⟩, fun b hb => by
      rw [upd_ne (Nat.ne_of_lt (Nat.lt_of_lt_of_le (hlt b hb) hT))]
      exact (hf b hb).1⟩
  done := by
    intro X hP hw hK hc i pins s σ H E I hf st hg
    subst hP hw hK
    obtain ⟨⟨old, he⟩, hit, hne⟩ := st
    obtain ⟨xs, hq, hx⟩ := hg
    obtain ⟨its, rv, p, hz⟩ := I.tuple hq
    have p' : s.heap.IsTuple a its.toArray := p
    have ea : e ≠ a := fun z => by
      obtain ⟨o, eo, c, _⟩ := p'
      rw [← z, he] at eo
      cases eo
      exact absurd (show Value.type "enumerate" = Value.type "tuple" from c) (by decide)
    have D := Draws.tuple (prog := X.prog) (w := X.w) (A := X.A.in1) (I.ok.hd hc) it a (tup_ne p' hit) its.toArray
    have G := GoesN.enumFrom (elts := elts) (x1 := kk) (pos := tpos) 0 D e hne (by simp [hne, ea]) (by simp)
    have hn : its.toArray.size = i := by
      have l := rv.length
      simp
      omega
    refine G.stops s _ _ (by rw [hn]; exact ⟨⟨old, he⟩, hit, p'⟩) fun h' tk hk htk => ?_
    exact I.turnedL (t' := tk) (ch := [e, it]) hk hf
  self := fun A i s Q E st h => by
    obtain ⟨⟨_, he⟩, _⟩ := st
    exact wpAny_pyIter_enum he h
def iEnT (K : PySem.W.Frag) (ta : TA) : TI := fun σ H R => ta σ H fun vs H1 => ∃ a xs, vs = [.ref a] ∧ ((SqL K H1 a xs ∧ R (Ite K a) H1) ∨ (SqT K H1 a xs ∧ R (IteT K a) H1))
theorem pi_enT {X : Cx} {e : Expr} {ta : TA} {p pos tpos : Pos} {elts : List Expr} {kk : Nat} (hg : Gl X "enumerate") (hm : X.mg "enumerate" = none) (ha : PA X [e] ta) (hs : starEach [e] X.env = [(false, eval e X.env)] := by rfl) :
    PI X (.Tuple elts kk tpos) (.Call (.Name "enumerate" p) [e] [] pos) (iEnT X.K ta) := by
  refine ⟨fun pins s σ H R I h => ?_⟩
  refine Call_ (ld_blt I hg hm boot_enumerate (PyProof.Rows.callWith_type1 (thn (ha.run pos pins s σ H _ I h) fun us s1 ⟨vs, H1, I1, r1, q1⟩ => ?_) hs rfl))
  obtain ⟨a, xs, rfl, q1⟩ := q1
  have fresh2 : ∀ b, b ∈ [s1.heap.objs.size + 1, s1.heap.objs.size] → FpOk X pins H1 b := fun b hb => by
    have le : s1.heap.objs.size ≤ b := by
      rcases (show b = s1.heap.objs.size + 1 ∨ b = s1.heap.objs.size by simpa using hb) with z | z <;> omega
    exact I1.fpOk le (I1.hok.fresh le)
  cases r1 with
  | cons r rr =>
    cases rr
    cases r
    rcases q1 with ⟨hq, q⟩ | ⟨hq, q⟩
    · obtain ⟨its, rv, p', hz⟩ := I1.list hq
      refine call_enumerate_list p'.isList fun h' he hit hsz hk => wpAny_pyIter_enum he ?_
      exact ⟨s1.heap.objs.size + 1, [s1.heap.objs.size + 1, s1.heap.objs.size], _, _, H1, rfl, I1.kept (t' := s1.toks) hk, turn_enum a (s1.heap.objs.size + 1) s1.heap.objs.size, ⟨⟨.none, he⟩, hit, Nat.succ_ne_self _⟩, fresh2, q⟩
    · obtain ⟨its, rv, p', hz⟩ := I1.tuple hq
      have pT : s1.heap.IsTuple a its.toArray := p'
      refine call_en1 (begins_tuple a its.toArray) pT fun h' he ho hsz hk => wpAny_pyIter_enum he ?_
      exact ⟨s1.heap.objs.size + 1, [s1.heap.objs.size + 1, s1.heap.objs.size], _, _, H1, rfl, I1.kept (t' := s1.toks) hk, turn_enT a (s1.heap.objs.size + 1) s1.heap.objs.size, ⟨⟨.none, he⟩, ⟨_, ho, rfl, rfl⟩, Nat.succ_ne_self _⟩, fresh2, q⟩
/-- a loop over enumerate of a tuple -/
theorem for_enT {K : PySem.W.Frag} {a : Addr} {xs : List V} {g : TG} {tb : TS} {D : Ends} {σ : L2.St} {H : Hp} (Pv : Nat → L2.St → Hp → Prop) (h0 : Pv 0 σ H) (hq : ∀ i σ H, Pv i σ H → SqT K H a xs)
    (hs : ∀ (i : Nat) (x : V) (T : Addr) (σ : L2.St) (H : Hp), xs[i]? = some x → Pv i σ H → H T = none → g (.ref T) σ (upd H T (.tup [.int (i : Nat), x])) fun σ2 H2 => tb { D with nx := Pv (i + 1), ct := Pv (i + 1), bk := D.nx } σ2 H2) (hd : ∀ σ H, Pv xs.length σ H → D.nx σ H) :
    ∃ W : Nat → Nat → L2.St → Hp → Prop, (∃ m, W 0 m σ H) ∧ ∀ i m σ H, W i m σ H →
      ((IteT K a).stop i H ∧ D.nx σ H) ∨ ((IteT K a).go i H ∧ ∃ N : L2.St → Hp → Prop, (∀ σ' H', N σ' H' → ∃ m', m' < m ∧ W (i + 1) m' σ' H') ∧ ∀ v H', (IteT K a).yld i H v H' → g v σ H' fun σ2 H2 => tb { D with nx := N, ct := N, bk := D.nx } σ2 H2) := by
  refine ⟨fun i m σ H => m = xs.length - i ∧ i ≤ xs.length ∧ Pv i σ H, ⟨xs.length, rfl, Nat.zero_le _, h0⟩, ?_⟩
  rintro i m σ H ⟨rfl, hi, p⟩
  have q := hq i σ H p
  by_cases hlt : i < xs.length
  · refine .inr ⟨⟨xs, xs[i], q, List.getElem?_eq_getElem hlt⟩, Pv (i + 1), fun σ' H' p' => ⟨xs.length - (i + 1), by omega, rfl, hlt, p'⟩, fun v H' y => ?_⟩
    obtain ⟨T, x, rfl, hT, rfl, hx⟩ := y
    exact hs i x T σ H (hx xs q) p hT
  · have e : i = xs.length := by omega
    subst e
    exact .inl ⟨⟨xs, q, rfl⟩, hd σ H p⟩
end OB
namespace OB
open PySem PySem.Spec PyProof.Rows L2
abbrev sIsName : Stmt := top 7
abbrev sIsWord : Stmt := top 8
abbrev sIsOne : Stmt := top 5
/-! ### names -/
/-- a comprehension over the signs of a text -/
theorem lc_str {x : Str} {g : TG} {tt : TT} {te : TE} {vs : List Nat} {σ : L2.St} {H1 : Hp} {D : Addr} {Qd : Hp → Prop} (Pv : Nat → Hp → Prop) (h0 : Pv 0 (upd H1 D (.lst [])))
    (hs : ∀ i c H, x.cps[i]? = some c → Pv i H → g (.str ⟨#[c]⟩) (wipe σ vs) H fun σ2 H2 => wipe σ2 vs = wipe σ vs ∧ tt σ2 H2 fun b H3 =>
      if b = true then te σ2 H3 fun y H4 => ∃ acc, H4 D = some (.lst acc) ∧ acc.length < sizeLine ∧ Pv (i + 1) (upd H4 D (.lst (acc ++ [y]))) else Pv (i + 1) H3) (hd : ∀ H, Pv x.cps.size H → Qd H) :
    ∃ W : Nat → Nat → Hp → Prop, (∃ m, W 0 m (upd H1 D (.lst []))) ∧ ∀ i m H, W i m H →
      ((Its x).stop i H ∧ Qd H) ∨ ((Its x).go i H ∧ ∃ Nx : Hp → Prop, (∀ H', Nx H' → ∃ m', m' < m ∧ W (i + 1) m' H') ∧ ∀ v H', (Its x).yld i H v H' → g v (wipe σ vs) H' fun σ2 H2 => wipe σ2 vs = wipe σ vs ∧ tt σ2 H2 fun b H3 =>
        if b = true then te σ2 H3 fun y H4 => ∃ acc, H4 D = some (.lst acc) ∧ acc.length < sizeLine ∧ Nx (upd H4 D (.lst (acc ++ [y]))) else Nx H3) := by
  refine ⟨fun i m H => m = x.cps.size - i ∧ i ≤ x.cps.size ∧ Pv i H, ⟨x.cps.size, by simp, Nat.zero_le _, h0⟩, ?_⟩
  rintro i m H ⟨rfl, hi, p⟩
  by_cases hlt : i < x.cps.size
  · refine .inr ⟨hlt, Pv (i + 1), fun H' p' => ⟨x.cps.size - (i + 1), by omega, rfl, hlt, p'⟩, fun v H' y => ?_⟩
    obtain ⟨rfl, c, hc, rfl⟩ := y
    exact hs i c _ hc p
  · have e : i = x.cps.size := by omega
    subst e
    exact .inl ⟨Nat.le_refl _, hd _ p⟩
def letters : Str := "abcdefghijklmnopqrstuvwxyz"
def figures : Str := "0123456789"
def okSign (c : Nat) : Bool := decide (c ∈ letters.cps.toList) || decide (c ∈ figures.cps.toList)
def isNameL (l : List Nat) : Bool := match l with
  | [] => false
  | c :: cs => decide ((c :: cs).length ≤ 8) && (decide (c ∈ letters.cps.toList) && (c :: cs).all okSign)
def isNameS (x : Str) : Bool := isNameL x.cps.toList
def fName (v : V) (_ : Kd) : Bool := match v with
  | .str x => isNameS x
  | _ => false
structure TxtN (mg : Str → Option Value) : Prop where
  L : ∃ t, mg "LETTERS" = some (.str letters t)
  F : ∃ t, mg "FIGURES" = some (.str figures t)
  N : ∃ t, mg "LONGEST_NAME" = some (.int 8 t)
section
variable {P : Program} {w : World} {K : PySem.W.Frag} {mg : Str → Option Value} {base : Heap}
theorem scIsName : FnScope ["thing", "sign"] ["thing"] (defScope sIsName) := ⟨rfl, rfl, rfl, by decide +kernel, rfl, by decide +kernel, by decide +kernel⟩
theorem ok_isName {f : Addr} {fd : FuncData} (F : Fun K "is_name" "is_name" sIsName f fd) (T : TxtC mg) (TN : TxtN mg) : FnOk P w K mg base CX0 1 f fd ["thing"] (spAsk K fName) := by
  obtain ⟨tL, mL⟩ := TN.L
  obtain ⟨tF, mF⟩ := TN.F
  obtain ⟨tN, mN⟩ := TN.N
  refine F.ok scIsName (fun vs H Q E h => ?_) (fun cdv A outer s H vs Q E hr h => ?_)
  · obtain ⟨v, k, rfl, _⟩ := h
    rfl
  · obtain ⟨v, k, rfl, a, q⟩ := h
    obtain ⟨t, S⟩ := a.says
    have nd := scIsName.nd
    refine ⟨_, pss_cons (ps_if (PW.pt (pw_or (pt_not (pt_val (pe_callB call_isA (by rfl) T.isi bootIsi (pa_cons (pv 0) (pa_cons (pe_bltn (v := .ty "str") (u := .type "str") (by rfl) T.str bStr rfl) pa_nil)))))
        (pw_or1 (pt_not (pt_chain op_le op_le pe_int (pe_callB call_len_str (by rfl) T.len PySem.boot_len (pa_cons (pv 0) pa_nil)) (pe_glob (v := .int 8) (by rfl) mN ⟨_, rfl⟩))))))
        (pss_one (ps_ret pe_bl)) pss_nil)
      (pss_one (ps_ret (pe_and (pe_cmpR op_in_sign (pe_ix ix_str (pv 0) pe_int (fun _ _ => rfl)) (pe_glob (v := .str letters) (by rfl) mL ⟨_, rfl⟩) (by rfl))
        (pe_one (pe_callB (cr_all rfl) (by rfl) T.all (by decide +kernel) (pa_cons (pe_lc (own := [("sign", 1)]) (g := gName 1) (tt := tYes) rfl nd (pi_str (pv 0)) (blkOk_by (N := ["thing", "sign"]) (sc := defScope sIsName) (by decide +kernel))
          (fun _ _ _ _ _ => pg_name (i := 1) nd rfl (Or.inl rfl)) (fun _ _ _ _ _ => pts_nil)
          (fun _ _ _ _ _ => pe_or (pe_cmpR op_in_sign (pv 1) (pe_glob (v := .str letters) (by rfl) mL ⟨_, rfl⟩) (by rfl)) (pe_one (pe_cmpR op_in_sign (pv 1) (pe_glob (v := .str figures) (by rfl) mF ⟨_, rfl⟩) (by rfl))))) pa_nil)))))), ?_⟩
    refine ⟨_, rfl, v, .ty "str", t, .type "str", _, rfl, .ty _, S.ty, S.str, _, rfl, ?_⟩
    have q0 := q H (Same.refl H)
    cases a with
    | @str x hx =>
      have hx2 : x.length ≤ sizeLine := Nat.le_trans hx (by decide)
      refine iteF ⟨_, rfl, x, rfl, hx2, 1, (x.length : Int), rfl, rfl, _, rfl, ?_⟩
      have fls : isNameS x = false → Q (.bl false) H := fun z => by
        have e : fName (.str x) .str = false := z
        rw [← e]
        exact q0
      have ln : x.length = x.cps.toList.length := by simp [Str.length]
      refine ite2 (fun h1 => ⟨_, 8, rfl, rfl, ?_⟩) (fun h1 => ?_)
      · have g1 : 1 ≤ x.length := by
          have z := of_decide_eq_true h1
          omega
        refine ⟨_, rfl, ?_⟩
        by_cases g2 : x.length ≤ 8
        · have e2 : decide (((x.length : Int)) ≤ 8) = true := decide_eq_true (by omega)
          rw [e2]
          refine iteF ?_
          obtain ⟨c, hc⟩ : ∃ c, x.cps.toList[0]? = some c := ⟨_, List.getElem?_eq_getElem (by omega)⟩
          obtain ⟨cs, hcs⟩ : ∃ cs, x.cps.toList = c :: cs := by
            cases e : x.cps.toList with
            | nil => rw [e] at hc; cases hc
            | cons d ds =>
              rw [e] at hc
              cases hc
              exact ⟨ds, rfl⟩
          have val : isNameS x = (decide (c ∈ letters.cps.toList) && x.cps.toList.all okSign) := by
            unfold isNameS isNameL
            rw [hcs]
            show (decide ((c :: cs).length ≤ 8) && _) = _
            rw [decide_eq_true (by rw [← hcs, ← ln]; exact g2), Bool.true_and]
          refine ⟨_, rfl, x, 0, c, rfl, rfl, hx2, atI_nat hc, c, letters, rfl, rfl, _, rfl, ?_⟩
          by_cases g3 : c ∈ letters.cps.toList
          · rw [decide_eq_true g3]
            refine iteT ⟨_, rfl, x, rfl, fun D nD => ?_⟩
            refine lc_str (fun i G => (∀ b o, b ≠ D → H b = some o → G b = some o) ∧ G D = some (.lst ((x.cps.toList.take i).map fun c => V.bl (okSign c)))) ⟨fun b o nb e => by rw [upd_ne nb]; exact e, by rw [upd_same]; rfl⟩ (fun i d G hd ⟨k1, k2⟩ => ?_) (fun G ⟨k1, k2⟩ => ?_)
            · refine ⟨rfl, ?_⟩
              dsimp only [tYes]
              rw [if_pos rfl]
              have hd' : x.cps.toList[i]? = some d := by simpa using hd
              have fin : ∃ acc, G D = some (.lst acc) ∧ acc.length < sizeLine ∧ ((∀ b o, b ≠ D → H b = some o → (upd G D (.lst (acc ++ [V.bl (okSign d)]))) b = some o) ∧ (upd G D (.lst (acc ++ [V.bl (okSign d)]))) D = some (.lst ((x.cps.toList.take (i + 1)).map fun c => V.bl (okSign c)))) := by
                refine ⟨_, k2, ?_, fun b o nb e => by rw [upd_ne nb]; exact k1 b o nb e, ?_⟩
                · rw [List.length_map, List.length_take, sizeLine_eq]
                  omega
                · rw [upd_same, List.take_add_one, hd', List.map_append]
                  rfl
              refine ⟨_, rfl, d, letters, rfl, rfl, _, rfl, ?_⟩
              by_cases g4 : d ∈ letters.cps.toList
              · have ok : okSign d = true := by
                  unfold okSign
                  rw [decide_eq_true g4] <;> rfl
                rw [decide_eq_true g4]
                rw [ok] at fin
                exact iteT fin
              · have ok : okSign d = decide (d ∈ figures.cps.toList) := by
                  unfold okSign
                  rw [decide_eq_false g4, Bool.false_or]
                rw [decide_eq_false g4]
                rw [ok] at fin
                exact iteF ⟨_, rfl, d, figures, rfl, rfl, fin⟩
            · refine ⟨D, x.cps.toList.map okSign, rfl, SqL.of ?_, ?_⟩
              · rw [k2, List.map_map]
                have z : x.cps.toList.take x.cps.size = x.cps.toList := List.take_of_length_le (by simp)
                rw [z] <;> rfl
              · have e : fName (.str x) .str = (x.cps.toList.map okSign).all id := by
                  show isNameS x = _
                  rw [val, decide_eq_true g3, Bool.true_and, List.all_map] <;> rfl
                rw [← e]
                exact q G fun b o eb => k1 b o (ne_of_none eb nD) eb
          · rw [decide_eq_false g3]
            exact iteF (fls (by rw [val, decide_eq_false g3, Bool.false_and]))
        · have e2 : decide (((x.length : Int)) ≤ 8) = false := decide_eq_false (by omega)
          rw [e2]
          refine iteT (fls ?_)
          unfold isNameS isNameL
          cases e : x.cps.toList with
          | nil => rfl
          | cons d ds =>
            show (decide ((d :: ds).length ≤ 8) && _) = false
            rw [decide_eq_false (by rw [← e, ← ln]; exact g2), Bool.false_and]
      · refine ⟨_, rfl, iteT (fls ?_)⟩
        have g1 : ¬ 1 ≤ x.length := fun z => h1 (decide_eq_true (by omega))
        unfold isNameS isNameL
        cases e : x.cps.toList with
        | nil => rfl
        | cons d ds =>
          rw [ln, e] at g1
          simp at g1
    | _ => exact iteT q0
end
end OB
namespace OB
open PySem PySem.Spec PyProof.Rows L2
open Sem (wp)
/-! ### zip of a text with a list or a tuple -/
def SqX (tp : Bool) (K : PySem.W.Frag) (H : Hp) (b : Addr) (ys : List V) : Prop := match tp with
  | true => SqT K H b ys
  | false => SqL K H b ys
def StX (tp : Bool) (it b : Addr) (i : Nat) (h : Heap) : Prop := match tp with
  | true => h.IsTupleIter it b i
  | false => h.IsListIter it b i
def SeqX (tp : Bool) (b : Addr) (items : Array Value) (h : Heap) : Prop := match tp with
  | true => h.IsTuple b items
  | false => h.IsList b items
def itObj (tp : Bool) (b : Addr) : Obj := match tp with
  | true => { cls := .type "tuple_iterator", data := .fields #[.ref b, .int 0 0] }
  | false => { cls := .type "list_iterator", data := .fields #[.ref b, .int 0 0] }
theorem stX_obj {tp : Bool} {it b : Addr} {i : Nat} {h : Heap} (st : StX tp it b i h) : ∃ o, h.get? it = some o ∧ o.data = .fields #[.ref b, .int i 0] := by
  cases tp with
  | true =>
    obtain ⟨o, e, _, d⟩ := st
    exact ⟨o, e, d⟩
  | false =>
    obtain ⟨o, e, _, d⟩ := st
    exact ⟨o, e, d⟩
theorem stX_at {tp : Bool} {it b : Addr} {i : Nat} {h h' : Heap} (st : StX tp it b i h) (k : ∀ o, h.get? it = some o → h'.get? it = some o) : StX tp it b i h' := by
  cases tp with
  | true =>
    obtain ⟨o, e, r⟩ := st
    exact ⟨o, k o e, r⟩
  | false =>
    obtain ⟨o, e, r⟩ := st
    exact ⟨o, k o e, r⟩
theorem stX_ne {tp : Bool} {it b : Addr} {i : Nat} {h : Heap} {items : Array Value} (st : StX tp it b i h) (p : SeqX tp b items h) : b ≠ it := fun z => by
  obtain ⟨o, e, d⟩ := stX_obj st
  cases tp with
  | true =>
    obtain ⟨o2, e2, _, n, d2⟩ := p
    rw [z, e] at e2
    cases e2
    rw [d] at d2
    cases d2
  | false =>
    obtain ⟨o2, e2, _, n, d2⟩ := p
    rw [z, e] at e2
    cases e2
    rw [d] at d2
    cases d2
theorem drawsX {prog : Program} {w : World} {A : Around} (hh : A.handled = none) (tp : Bool) (it b : Addr) (ne : b ≠ it) (items : Array Value) : Draws prog w A it [it, b] items.size (fun i v => items[i]? = some v) (fun i h => StX tp it b i h ∧ SeqX tp b items h) := by
  cases tp with
  | true => exact Draws.tuple hh it b ne items
  | false => exact Draws.list hh it b ne items
theorem beginsX (tp : Bool) (b : Addr) (items : Array Value) : Begins (.ref b) (itObj tp b) (SeqX tp b items) := by
  cases tp with
  | true => exact begins_tuple b items
  | false => exact begins_list b items
section
variable {X : Cx} {pins : List (Addr × Obj)} {σ : L2.St} {H : Hp} {s : Shared}
theorem seqX_of {tp : Bool} {b : Addr} {ys : List V} (I : Inv X pins σ H s) (h : SqX tp X.K H b ys) : ∃ its, Vals ys its ∧ SeqX tp b its.toArray s.heap ∧ ∀ zs, SqX tp X.K H b zs → zs = ys := by
  cases tp with
  | true =>
    obtain ⟨its, rv, p, hz⟩ := I.tuple h
    exact ⟨its, rv, p, fun zs hzs => I.tuple_inj hzs h⟩
  | false =>
    obtain ⟨its, rv, p, hz⟩ := I.list h
    exact ⟨its, rv, p.isList, fun zs hzs => I.list_inj hzs h⟩
end
/-- the text's signs and what stands at b, in new pairs -/
def ItzX (tp : Bool) (K : PySem.W.Frag) (x : Str) (b : Addr) : It :=
  ⟨fun i H => ∃ (ys : List V) (c : Nat) (y : V), SqX tp K H b ys ∧ x.cps[i]? = some c ∧ ys[i]? = some y,
    fun i H v H' => ∃ T c y, v = .ref T ∧ H T = none ∧ H' = upd H T (.tup [.str ⟨#[c]⟩, y]) ∧ x.cps[i]? = some c ∧ ∀ ys, SqX tp K H b ys → ys[i]? = some y,
    fun i H => ∃ ys : List V, SqX tp K H b ys ∧ min x.cps.size ys.length = i⟩
theorem turn_zipX {P : Program} {w : World} {K : PySem.W.Frag} {elts : List Expr} {kk : Nat} {tpos : Pos} {tp : Bool} {x : Str} {b z TI TO i1 i2 : Addr} (S : ZipSep2 z TI TO i1 i2 [i1] [i2, b]) :
    Turn P w K (.Tuple elts kk tpos) (ItzX tp K x b) [z, TI, TO, i1, i2] z (fun i h => IsZip h z TI TO .none ∧ IsTupOf2 h TI (.ref i1) (.ref i2) ∧ (∃ a1 a2, IsTupOf2 h TO a1 a2) ∧ (∃ t, h.IsStrIter i1 (strIterType x) x t i) ∧ StX tp i2 b i h) where
  mem := by simp
  obj := fun i h st c hc => by
    obtain ⟨hz, hTI, ⟨a1, a2, hTO⟩, ⟨t, o1, e1, _, d1⟩, s2⟩ := st
    obtain ⟨o2, e2, d2⟩ := stX_obj s2
    rcases (show c = z ∨ c = TI ∨ c = TO ∨ c = i1 ∨ c = i2 by simpa using hc) with q | q | q | q | q
    · rw [q]
      exact ⟨_, hz, fun v q => nomatch q⟩
    · rw [q]
      exact ⟨_, hTI, fun v q => nomatch q⟩
    · rw [q]
      exact ⟨_, hTO, fun v q => nomatch q⟩
    · rw [q]
      exact ⟨o1, e1, fun v q => by rw [d1] at q; cases q⟩
    · rw [q]
      exact ⟨o2, e2, fun v q => by rw [d2] at q; cases q⟩
  keep := fun i h h' st k => by
    obtain ⟨hz, hTI, ⟨a1, a2, hTO⟩, ⟨t, o1, e1, r1⟩, s2⟩ := st
    exact ⟨k z (by simp) _ hz, k TI (by simp) _ hTI, ⟨a1, a2, k TO (by simp) _ hTO⟩, ⟨t, o1, k i1 (by simp) _ e1, r1⟩, stX_at s2 fun o e => k i2 (by simp) o e⟩
  item := by
    intro X hP hw hK hc i pins s σ H E I hf st hg
    subst hP hw hK
    obtain ⟨hz, hTI, ⟨a1, a2, hTO⟩, ⟨t, h1⟩, h2⟩ := st
    obtain ⟨ys, c, y, hq, hx, hy⟩ := hg
    obtain ⟨its, rv, p, inj⟩ := seqX_of I hq
    have D1 := Draws.text (prog := X.prog) (w := X.w) (A := X.A.in1) (I.ok.hd hc) i1 x t
    have D2 := drawsX (prog := X.prog) (w := X.w) (A := X.A.in1) (I.ok.hd hc) tp i2 b (stX_ne h2 p) its.toArray
    have G := GoesN.zip2 (elts := elts) (x1 := kk) (pos := tpos) S D1 D2
    have l := rv.length
    have hi : i < min x.cps.size its.toArray.size := by
      have b1 : i < x.cps.size := by
        obtain ⟨q, _⟩ := Array.getElem?_eq_some_iff.mp hx
        exact q
      have b2 : i < ys.length := (List.getElem?_eq_some_iff.mp hy).1
      simp
      omega
    have lt : ∀ c ∈ [z, TI, TO, i1, i2], c < s.heap.objs.size := fun c hcm => by
      obtain ⟨o2, e2, _⟩ := stX_obj h2
      obtain ⟨o1, e1, _⟩ := h1
      rcases (show c = z ∨ c = TI ∨ c = TO ∨ c = i1 ∨ c = i2 by simpa using hcm) with q | q | q | q | q
      · rw [q]
        exact Heap.lt_size hz
      · rw [q]
        exact Heap.lt_size hTI
      · rw [q]
        exact Heap.lt_size hTO
      · rw [q]
        exact Heap.lt_size e1
      · rw [q]
        exact Heap.lt_size e2
    refine G.goes i s _ _ hi ⟨hz, hTI, ⟨a1, a2, hTO⟩, h1, h2, p⟩ fun v h' tk hY st' hk htk => ?_
    obtain ⟨T, u, u2, rfl, hT, ⟨c', tc, hc', rfl⟩, hu2, oT, eT, cT, nT, dT⟩ := hY
    obtain ⟨hz', hTI', ⟨b1, b2, hTO'⟩, h1', h2', _⟩ := st'
    rw [hx] at hc'
    cases hc'
    have hu2' : its[i]? = some u2 := by simpa using hu2
    obtain ⟨w2, hw2, ru⟩ := rv.get hy
    rw [hu2'] at hw2
    cases hw2
    have new : ObjOk X.prog X.w (upd H T (.tup [.str ⟨#[c]⟩, y])) h' T (.tup [.str ⟨#[c]⟩, y]) := ⟨by show 2 ≤ sizeLine; decide, [.str ⟨#[c]⟩ tc, u2], .cons ⟨tc, rfl⟩ (.cons ru .nil), ⟨oT, eT, cT, nT, dT⟩⟩
    have I1 : Inv X pins σ (upd H T (.tup [.str ⟨#[c]⟩, y])) { s with heap := h', toks := tk } := I.turnedNew (t' := tk) (ch := [z, TI, TO, i1, i2]) (fun d o hd e => hk d o (fun q => hd (by
      rcases (show d = z ∨ d = TO ∨ d = i1 ∨ d = i2 by simpa using q) with q | q | q | q <;> simp [q])) e) hf hT new
    exact ⟨.ref T, _, I1, rfl, ⟨T, c, y, rfl, I.hok.fresh hT, rfl, hx, fun zs hzs => by rw [inj zs hzs]; exact hy⟩, ⟨hz', hTI', ⟨b1, b2, hTO'⟩, ⟨t, h1'⟩, h2'⟩, fun d hd => by
      rw [upd_ne (Nat.ne_of_lt (Nat.lt_of_lt_of_le (lt d hd) hT))]
      exact (hf d hd).1⟩
  done := by
    intro X hP hw hK hc i pins s σ H E I hf st hg
    subst hP hw hK
    obtain ⟨hz, hTI, ⟨a1, a2, hTO⟩, ⟨t, h1⟩, h2⟩ := st
    obtain ⟨ys, hq, hx⟩ := hg
    obtain ⟨its, rv, p, inj⟩ := seqX_of I hq
    have D1 := Draws.text (prog := X.prog) (w := X.w) (A := X.A.in1) (I.ok.hd hc) i1 x t
    have D2 := drawsX (prog := X.prog) (w := X.w) (A := X.A.in1) (I.ok.hd hc) tp i2 b (stX_ne h2 p) its.toArray
    have G := GoesN.zip2 (elts := elts) (x1 := kk) (pos := tpos) S D1 D2
    have l := rv.length
    have hn : min x.cps.size its.toArray.size = i := by
      simp
      omega
    refine G.stops s _ _ (by rw [hn]; exact ⟨hz, hTI, ⟨a1, a2, hTO⟩, h1, h2, p⟩) fun h' tk hk htk => ?_
    exact I.turnedL (t' := tk) (ch := [z, TI, TO, i1, i2]) (fun d o hd e => hk d o (fun q => hd (by
      rcases (show d = z ∨ d = TO ∨ d = i1 ∨ d = i2 by simpa using q) with q | q | q | q <;> simp [q])) e) hf
  self := fun A i s Q E st h => wpAny_pyIter_zip st.1 h
def iZipX (K : PySem.W.Frag) (ta : TA) : TI := fun σ H R => ta σ H fun vs H1 => ∃ (x : Str) (b : Addr) (ys : List V) (tp : Bool), vs = [.str x, .ref b] ∧ SqX tp K H1 b ys ∧ R (ItzX tp K x b) H1
theorem pi_zipX {X : Cx} {e e2 : Expr} {ta : TA} {p pos tpos : Pos} {elts : List Expr} {kk : Nat} (hg : Gl X "zip") (hm : X.mg "zip" = none) (ha : PA X [e, e2] ta)
    (hs : starEach [e, e2] X.env = (false, eval e X.env) :: starEach [e2] X.env := by rfl) (hpl : (backTo pos (starEach [e2] X.env)).any (·.1) = false := by rfl) :
    PI X (.Tuple elts kk tpos) (.Call (.Name "zip" p) [e, e2] [] pos) (iZipX X.K ta) := by
  refine ⟨fun pins s σ H R I h => ?_⟩
  refine Call_ (ld_blt I hg hm PyProof.Rows.boot_zip (PyProof.Rows.callWith_type1 (thn (ha.run pos pins s σ H _ I h) fun us s1 ⟨vs, H1, I1, r1, q1⟩ => ?_) hs hpl))
  obtain ⟨x, b, ys, tp, rfl, hq, q⟩ := q1
  cases r1 with
  | cons r rr =>
    cases rr with
    | cons r' rr =>
      cases rr
      obtain ⟨t, rfl⟩ := r
      cases r'
      obtain ⟨its, rv, pp, inj⟩ := seqX_of I1 hq
      have bl : b < s1.heap.objs.size := by
        cases tp with
        | true =>
          obtain ⟨o, e, _⟩ := pp
          exact Heap.lt_size e
        | false =>
          obtain ⟨o, e, _⟩ := pp
          exact Heap.lt_size e
      have fresh5 : ∀ c, c ∈ [s1.heap.objs.size + 4, s1.heap.objs.size + 2, s1.heap.objs.size + 3, s1.heap.objs.size, s1.heap.objs.size + 1] → FpOk X pins H1 c := fun c hcm => by
        have le : s1.heap.objs.size ≤ c := by
          rcases (show c = s1.heap.objs.size + 4 ∨ c = s1.heap.objs.size + 2 ∨ c = s1.heap.objs.size + 3 ∨ c = s1.heap.objs.size ∨ c = s1.heap.objs.size + 1 by simpa using hcm) with z | z | z | z | z <;> (rw [z]; first | exact Nat.le_refl _ | exact Nat.le_add_right _ _)
        exact I1.fpOk le (I1.hok.fresh le)
      refine zip_begins2 (begins_text x t) (beginsX tp b its.toArray) trivial pp fun h' hz hTI hTO g1 g2 hsz hk => wpAny_pyIter_zip hz ?_
      have I2 : Inv X pins σ H1 { s1 with heap := h' } := I1.kept (t' := s1.toks) hk
      refine ⟨s1.heap.objs.size + 4, [s1.heap.objs.size + 4, s1.heap.objs.size + 2, s1.heap.objs.size + 3, s1.heap.objs.size, s1.heap.objs.size + 1], _, _, H1, rfl, I2, turn_zipX (x := x) (b := b) (zip_sep2 (N := s1.heap.objs.size) (fp1 := []) (fp2 := [b]) (by simp) (by simpa using bl)), ⟨hz, hTI, ⟨_, _, hTO⟩, ⟨t, _, g1, rfl, rfl⟩, ?_⟩, fresh5, q⟩
      cases tp with
      | true => exact ⟨_, g2, rfl, rfl⟩
      | false => exact ⟨_, g2, rfl, rfl⟩
/-- a comprehension over such a zip, both of one length -/
theorem lc_zipX {tp : Bool} {K : PySem.W.Frag} {x : Str} {b : Addr} {ys : List V} {g : TG} {tt : TT} {te : TE} {vs : List Nat} {σ : L2.St} {H1 : Hp} {D : Addr} {Qd : Hp → Prop} (hl : x.cps.size = ys.length) (Pv : Nat → Hp → Prop) (h0 : Pv 0 (upd H1 D (.lst []))) (hq : ∀ i H, Pv i H → SqX tp K H b ys)
    (hs : ∀ (i : Nat) (c : Nat) (y : V) (T : Addr) (H : Hp), x.cps[i]? = some c → ys[i]? = some y → Pv i H → H T = none → g (.ref T) (wipe σ vs) (upd H T (.tup [.str ⟨#[c]⟩, y])) fun σ2 H2 => wipe σ2 vs = wipe σ vs ∧ tt σ2 H2 fun k H3 =>
      if k = true then te σ2 H3 fun v H4 => ∃ acc, H4 D = some (.lst acc) ∧ acc.length < sizeLine ∧ Pv (i + 1) (upd H4 D (.lst (acc ++ [v]))) else Pv (i + 1) H3) (hd : ∀ H, Pv ys.length H → Qd H) :
    ∃ W : Nat → Nat → Hp → Prop, (∃ m, W 0 m (upd H1 D (.lst []))) ∧ ∀ i m H, W i m H →
      ((ItzX tp K x b).stop i H ∧ Qd H) ∨ ((ItzX tp K x b).go i H ∧ ∃ Nx : Hp → Prop, (∀ H', Nx H' → ∃ m', m' < m ∧ W (i + 1) m' H') ∧ ∀ v H', (ItzX tp K x b).yld i H v H' → g v (wipe σ vs) H' fun σ2 H2 => wipe σ2 vs = wipe σ vs ∧ tt σ2 H2 fun k H3 =>
        if k = true then te σ2 H3 fun v H4 => ∃ acc, H4 D = some (.lst acc) ∧ acc.length < sizeLine ∧ Nx (upd H4 D (.lst (acc ++ [v]))) else Nx H3) := by
  refine ⟨fun i m H => m = ys.length - i ∧ i ≤ ys.length ∧ Pv i H, ⟨ys.length, rfl, Nat.zero_le _, h0⟩, ?_⟩
  rintro i m H ⟨rfl, hi, p⟩
  have q := hq i H p
  by_cases hlt : i < ys.length
  · have hc : i < x.cps.size := by omega
    refine .inr ⟨⟨ys, x.cps[i], ys[i], q, Array.getElem?_eq_getElem hc, List.getElem?_eq_getElem hlt⟩, Pv (i + 1), fun H' p' => ⟨ys.length - (i + 1), by omega, rfl, hlt, p'⟩, fun v H' y => ?_⟩
    obtain ⟨T, c, w, rfl, hT, rfl, hx, hy⟩ := y
    exact hs i c w T H hx (hy ys q) p hT
  · have e : i = ys.length := by omega
    subst e
    exact .inl ⟨⟨ys, q, by omega⟩, hd H p⟩
end OB
namespace OB
open PySem PySem.Spec PyProof.Rows L2
/-! ### told_names -/
abbrev sNames : Stmt := top 18
/-- the thing at i is no name, or stood ahead -/
def oddAt (xs : List V) (i : Nat) : Bool := match xs[i]? with
  | some (.str x) => !isNameS x || decide (V.str x ∈ xs.take i)
  | _ => true
/-- the index that is told: the first odd thing's, or how many there are if they are too few -/
def DueAt (xs : List V) (i : Nat) : Prop := i ≤ xs.length ∧ (∀ j, j < i → oddAt xs j = false) ∧ (i < xs.length → oddAt xs i = true) ∧ (i = xs.length → xs.length < 2)
def AllAny (K : PySem.W.Frag) (H : Hp) (xs : List V) : Prop := ∀ x ∈ xs, ∃ k, Any K H x k
theorem AllAny.same {K : PySem.W.Frag} {H H' : Hp} {xs : List V} (h : AllAny K H xs) (e : Same H H') : AllAny K H' xs := fun x m => by
  obtain ⟨k, a⟩ := h x m
  exact ⟨k, a.same e⟩
def spNames (K : PySem.W.Frag) (CA : Addr) : Sp := fun vs H Q E => ∃ (v : V) (k : Kd), vs = [v] ∧ Any K H v k ∧
  (fSeq v k = false → ∀ H' d, Same H H' → H d = none → H' d = some (.xd [("index", .int 0)]) → E (.ref CA) (some d) H') ∧
  (fSeq v k = true → ∃ (a : Addr) (tp : Bool) (xs : List V), v = .ref a ∧ SqX tp K H a xs ∧ AllAny K H xs ∧ xs.length < 1000 ∧
    (∀ (i : Nat) H' d, DueAt xs i → Same H H' → H d = none → H' d = some (.xd [("index", .int (i : Nat))]) → E (.ref CA) (some d) H') ∧
    ((∀ j, j < xs.length → oddAt xs j = false) → 2 ≤ xs.length → ∀ H' T, Same H H' → H T = none → H' T = some (.tup xs) → Q (.ref T) H'))
theorem SqX.same {tp : Bool} {K : PySem.W.Frag} {H H' : Hp} {a : Addr} {xs : List V} (h : SqX tp K H a xs) (e : Same H H') : SqX tp K H' a xs := by
  cases tp with
  | true =>
    rcases h with (h | ⟨o, h⟩) | h
    · exact .inl (.inl (e _ _ h))
    · exact .inl (.inr ⟨o, e _ _ h⟩)
    · exact .inr h
  | false => exact e.seq h
theorem inV_str (x : Str) : ∀ (ls : List V), (∀ y ∈ ls, ∃ s, y = V.str s) → inV (.str x) ls = decide (V.str x ∈ ls)
  | [], _ => by simp [inV]
  | y :: ls, h => by
    obtain ⟨s, rfl⟩ := h y (List.mem_cons_self ..)
    have ih := inV_str x ls fun z m => h z (List.mem_cons_of_mem _ m)
    show (eqV (.str s) (.str x) || inV (.str x) ls) = _
    rw [ih]
    have e : eqV (.str s) (.str x) = decide (s = x) := by
      trace_state
      rfl
    rw [e]
    by_cases q : s = x
    · subst q
      simp
    · rw [decide_eq_false q, Bool.false_or]
      apply decide_eq_decide.mpr
      constructor
      · exact fun m => List.mem_cons_of_mem _ m
      · intro m
        rcases List.mem_cons.mp m with z | z
        · exact absurd (V.str.inj z).symm q
        · exact z
/-- a loop over enumerate of a list that stays -/
theorem for_enL {K : PySem.W.Frag} {a : Addr} {xs : List V} {g : TG} {tb : TS} {D : Ends} {σ : L2.St} {H : Hp} (Pv : Nat → L2.St → Hp → Prop) (h0 : Pv 0 σ H) (hq : ∀ i σ H, Pv i σ H → SqL K H a xs)
    (hs : ∀ (i : Nat) (x : V) (T : Addr) (σ : L2.St) (H : Hp), xs[i]? = some x → Pv i σ H → H T = none → g (.ref T) σ (upd H T (.tup [.int (i : Nat), x])) fun σ2 H2 => tb { D with nx := Pv (i + 1), ct := Pv (i + 1), bk := D.nx } σ2 H2) (hd : ∀ σ H, Pv xs.length σ H → D.nx σ H) :
    ∃ W : Nat → Nat → L2.St → Hp → Prop, (∃ m, W 0 m σ H) ∧ ∀ i m σ H, W i m σ H →
      ((Ite K a).stop i H ∧ D.nx σ H) ∨ ((Ite K a).go i H ∧ ∃ N : L2.St → Hp → Prop, (∀ σ' H', N σ' H' → ∃ m', m' < m ∧ W (i + 1) m' σ' H') ∧ ∀ v H', (Ite K a).yld i H v H' → g v σ H' fun σ2 H2 => tb { D with nx := N, ct := N, bk := D.nx } σ2 H2) := by
  refine ⟨fun i m σ H => m = xs.length - i ∧ i ≤ xs.length ∧ Pv i σ H, ⟨xs.length, rfl, Nat.zero_le _, h0⟩, ?_⟩
  rintro i m σ H ⟨rfl, hi, p⟩
  have q := hq i σ H p
  by_cases hlt : i < xs.length
  · refine .inr ⟨⟨xs, xs[i], q, List.getElem?_eq_getElem hlt⟩, Pv (i + 1), fun σ' H' p' => ⟨xs.length - (i + 1), by omega, rfl, hlt, p'⟩, fun v H' y => ?_⟩
    obtain ⟨T, x, rfl, hT, rfl, hx⟩ := y
    exact hs i x T σ H (hx xs q) p hT
  · have e : i = xs.length := by omega
    subst e
    exact .inl ⟨⟨xs, q, Nat.le_refl _⟩, hd σ H p⟩
end OB
namespace OB
open PySem PySem.Spec PyProof.Rows L2
/-- what an own error class with a field says -/
structure ErrK (P : Program) (K : PySem.W.Frag) (mg : Str → Option Value) (x : Str) (C fI : Addr) (f : Str) : Prop where
  T : OE.Cl1 P K C fI f
  B : OE.Bds f
  g : mg x = some (.ref C)
  k : PySem.W.keepIn K (.ref C) = true
  ex : PySem.W.subIn K (.ref C) (.type "BaseException") = some true
  ty : PySem.W.typeIn K (.ref C) = some (.type "type")
structure TxtL (mg : Str → Option Value) : Prop where
  en : mg "enumerate" = none
  F : ∃ t, mg "FEWEST" = some (.int 2 t)
section
variable {P : Program} {w : World} {K : PySem.W.Frag} {mg : Str → Option Value} {base : Heap}
theorem scNames : FnScope ["addresses", "names", "index", "thing"] ["addresses"] (defScope sNames) := ⟨rfl, rfl, rfl, by decide +kernel, rfl, by decide +kernel, by decide +kernel⟩
theorem ok_names {f fL fN CA fA : Addr} {fd fdL fdN : FuncData} (F : Fun K "told_names" "told_names" sNames f fd) (FL : Fun K "is_list" "is_list" sIsList fL fdL) (gL : mg "is_list" = some (.ref fL)) (FN : Fun K "is_name" "is_name" sIsName fN fdN) (gN : mg "is_name" = some (.ref fN))
    (T : TxtC mg) (TN : TxtN mg) (TL : TxtL mg) (EA : ErrK P K mg "BadAddresses" CA fA "index") (htop : (P.main.scope.names.lookup ("super" : Str)).isSome = false) : FnOk P w K mg base (L2.CX P w) 3 f fd ["addresses"] (spNames K CA) := by
  have GL : FnOk P w K mg base CX0 1 fL fdL ["thing"] (spAsk K fSeq) := ok_isList FL T
  have GN : FnOk P w K mg base CX0 1 fN fdN ["thing"] (spAsk K fName) := ok_isName FN T TN
  have bL : Binds K fdL ["thing"] [] := FL.binds fun _ _ _ _ _ _ us hl => match us, hl with | [_], _ => rfl
  have bN : Binds K fdN ["thing"] [] := FN.binds fun _ _ _ _ _ _ us hl => match us, hl with | [_], _ => rfl
  obtain ⟨tF, mF⟩ := TL.F
  refine F.okX scNames (fun vs H Q E h => ?_) (fun cdv A outer s H vs Q E hr h => ?_)
  · obtain ⟨v, k, rfl, _⟩ := h
    rfl
  · obtain ⟨v, k, rfl, a, hbad, hok⟩ := h
    have nd := scNames.nd
    have hr1 : Room 1 (A.deeper (envOfC "told_names" (defScope sNames) s.heap.objs.size f cdv)) := hr.mono (by decide)
    refine ⟨_, pss_cons (ps_if (pt_not (pt_val (pe_call GL hr1 (by rfl) gL FL.kp bL .nil pass0 (pa_cons (pv 0) pa_nil))))
        (pss_one (ps_raise rfl (takes_of rfl rfl rfl rfl) (pmk_err EA.T EA.B hr htop (by rfl) EA.g EA.k EA.ex EA.ty (by exact (pa_cons pe_int pa_nil)) rfl))) pss_nil)
      (pss_cons (ps_set (i := 1) nd rfl (Or.inl rfl) (pe_lst pa_nil))
      (pss_cons (ps_for (passes_of rfl) rfl (pi_enT (by rfl) TL.en (pa_cons (pv 0) pa_nil)) (pg_tup rfl (pgs_cons (pg_name (i := 2) nd rfl (Or.inl rfl)) (pgs_cons (pg_name (i := 3) nd rfl (Or.inl rfl)) pgs_nil)))
        (pss_cons (ps_if (PW.pt (pw_or (pt_not (pt_val (pe_call GN hr1 (by rfl) gN FN.kp bN .nil pass0 (pa_cons (pv 3) pa_nil)))) (pw_or1 (pt_cmpR op_in_seq (pv 3) (pv 1) (by rfl)))))
          (pss_one (ps_raise rfl (takes_of rfl rfl rfl rfl) (pmk_err EA.T EA.B hr htop (by rfl) EA.g EA.k EA.ex EA.ty (by exact (pa_cons (pv 2) pa_nil)) rfl))) pss_nil)
        (pss_one (ps_expr (pe_bm PySem.F.plainAttrs_list PySem.F.slot_list_append PySem.F.type_list_append mt_append (pv 1) (pa_cons (pv 3) pa_nil))))))
      (pss_cons (ps_if (pt_cmpR op_lt (pe_callB call_len_seq (by rfl) T.len PySem.boot_len (pa_cons (pv 1) pa_nil)) (pe_glob (v := .int 2) (by rfl) mF ⟨_, rfl⟩) (nomark _))
        (pss_one (ps_raise rfl (takes_of rfl rfl rfl rfl) (pmk_err EA.T EA.B hr htop (by rfl) EA.g EA.k EA.ex EA.ty (by exact (pa_cons (pe_callB call_len_seq (by rfl) T.len PySem.boot_len (pa_cons (pv 1) pa_nil)) pa_nil)) rfl))) pss_nil)
      (pss_one (ps_ret (pe_callTy call_tuple_of (by rfl) T.tuple (by decide +kernel) (pa_cons (pv 1) pa_nil))))))), ?_⟩
    refine ⟨_, rfl, v, k, rfl, a, fun H1 e1 => ⟨_, rfl, ?_⟩⟩
    cases hf : fSeq v k with
    | false =>
      exact iteT ⟨_, rfl, fun d nd => hbad hf _ d (e1.trans (Same.new nd)) (e1.free nd) upd_same⟩
    | true =>
      obtain ⟨p, tp, xs, rfl, hx, hA, hlen, hE, hQ⟩ := hok hf
      refine iteF ⟨Nat.zero_le _, fun D nD => ?_⟩
      have nD0 : H D = none := e1.free nD
      have e2 : Same H (upd H1 D (.lst [])) := e1.trans (Same.new nD)
      have hx2 : SqX tp K (upd H1 D (.lst [])) p xs := hx.same e2
      have g2 : (upd H1 D (.lst [])) D = some (.lst []) := upd_same
      generalize upd H1 D (.lst []) = H2 at e2 hx2 g2
      have stands : ∀ (i : Nat) (σ : L2.St) (G : Hp), ((∃ o2 o3 : Option V, σ = [some (.ref p), some (.ref D), o2, o3]) ∧ Same H G ∧ G D = some (.lst (xs.take i)) ∧ ∀ j, j < i → oddAt xs j = false) → SqX tp K G p xs := fun i σ G q => hx.same q.2.1
      have begin0 : Same H H2 ∧ H2 D = some (.lst (xs.take 0)) ∧ ∀ j, j < 0 → oddAt xs j = false := ⟨e2, g2, fun j hj => absurd hj (Nat.not_lt_zero j)⟩
      refine ⟨_, rfl, p, xs, rfl, ?_⟩
      cases tp with
      | true =>
        refine .inr ⟨hx2, for_enT (xs := xs) (fun i σ G => (∃ o2 o3 : Option V, σ = [some (.ref p), some (.ref D), o2, o3]) ∧ Same H G ∧ G D = some (.lst (xs.take i)) ∧ ∀ j, j < i → oddAt xs j = false) ⟨⟨_, _, rfl⟩, begin0⟩ stands ?_ ?_⟩
        · rintro i x TT σ G hi ⟨⟨o2, o3, rfl⟩, eG, gD, hj⟩ hT
          have hlt : i < xs.length := (List.getElem?_eq_some_iff.mp hi).1
          refine ⟨TT, _, rfl, SqT.of upd_same, rfl, .int (i : Nat), _, rfl, x, _, rfl, rfl, ?_⟩
          have e3 : Same G (upd G TT (.tup [.int (i : Nat), x])) := Same.new hT
          obtain ⟨kx, ax⟩ := hA x (List.mem_of_getElem? hi)
          refine ⟨_, rfl, x, kx, rfl, (ax.same eG).same e3, fun G2 e4 => ⟨_, rfl, ?_⟩⟩
          have e5 : Same H G2 := (eG.trans e3).trans e4
          have gD2 : G2 D = some (.lst (xs.take i)) := e4 _ _ (e3 _ _ gD)
          have bad : oddAt xs i = true → ∀ (d : Addr), G2 d = none → E (.ref CA) (some d) (upd G2 d (.xd [("index", .int (i : Nat))])) := fun z d nd => hE i _ d ⟨Nat.le_of_lt hlt, hj, fun _ => z, fun q => absurd q (Nat.ne_of_lt hlt)⟩ (e5.trans (Same.new nd)) (e5.free nd) upd_same
          cases hn : fName x kx with
          | false =>
            refine iteT ⟨_, rfl, _, rfl, fun d nd => bad ?_ d nd⟩
            unfold oddAt
            rw [hi]
            cases x with
            | str y =>
              have hn' : isNameS y = false := hn
              show (!isNameS y || _) = true
              rw [hn'] <;> rfl
            | _ => rfl
          | true =>
            obtain ⟨y, rfl⟩ : ∃ y, x = V.str y := by
              cases x with
              | str y => exact ⟨y, rfl⟩
              | _ => cases hn
            have hn' : isNameS y = true := hn
            have allS : ∀ z ∈ xs.take i, ∃ t, z = V.str t := fun z mz => by
              obtain ⟨j, hj1, hj2⟩ := List.getElem_of_mem mz
              have hj3 : j < i := by
                have q := hj1
                rw [List.length_take] at q
                omega
              have hj4 : xs[j]? = some z := by
                rw [← hj2, List.getElem_take]
                exact List.getElem?_eq_getElem _
              have o := hj j hj3
              unfold oddAt at o
              rw [hj4] at o
              cases z with
              | str t => exact ⟨t, rfl⟩
              | _ => cases o
            have odd : oddAt xs i = decide (V.str y ∈ xs.take i) := by
              unfold oddAt
              rw [hi]
              show (!isNameS y || _) = _
              rw [hn'] <;> rfl
            refine iteF ⟨_, rfl, _, rfl, D, _, rfl, .inl (SqL.of gD2), rfl, ?_, _, rfl, ?_⟩
            · exact List.all_eq_true.mpr fun z mz => by
                obtain ⟨t, rfl⟩ := allS z mz
                rfl
            rw [inV_str y _ allS, ← odd]
            cases ho : oddAt xs i with
            | true => exact iteT ⟨_, rfl, _, rfl, fun d nd => bad ho d nd⟩
            | false =>
              refine iteF ⟨_, rfl, .inl ⟨rfl, _, SqL.of gD2⟩, _, rfl, D, _, _, rfl, rfl, gD2, ?_, ?_⟩
              · rw [List.length_take, sizeLine_eq]
                omega
              · refine ⟨⟨_, _, rfl⟩, fun b o eb => ?_, ?_, fun j hj' => ?_⟩
                · rw [upd_ne (ne_of_none eb nD0)]
                  exact e5 b o eb
                · rw [upd_same, List.take_add_one, hi] <;> rfl
                · by_cases z : j = i
                  · rw [z]
                    exact ho
                  · exact hj j (by omega)
        · rintro σ G ⟨⟨o2, o3, rfl⟩, eG, gD, hj⟩
          rw [List.take_length] at gD
          refine ⟨_, rfl, D, xs, rfl, .inl (SqL.of gD), (xs.length : Int), 2, rfl, rfl, _, rfl, ?_⟩
          refine ite2 (fun h => ?_) (fun h => ?_)
          · have l2 : xs.length < 2 := by
              have z := of_decide_eq_true h
              omega
            refine ⟨_, rfl, D, xs, rfl, .inl (SqL.of gD), _, rfl, fun d nd => ?_⟩
            exact hE xs.length _ d ⟨Nat.le_refl _, hj, fun q => absurd q (Nat.lt_irrefl _), fun _ => l2⟩ (eG.trans (Same.new nd)) (eG.free nd) upd_same
          · have l2 : 2 ≤ xs.length := by
              have z : ¬ ((xs.length : Int) < 2) := fun q => h (decide_eq_true q)
              omega
            refine ⟨_, rfl, D, xs, rfl, .inl ⟨SqL.of gD, fun TT nT => ?_⟩⟩
            exact hQ hj l2 _ TT (eG.trans (Same.new nT)) (eG.free nT) upd_same
      | false =>
        refine .inl ⟨hx2, for_enL (xs := xs) (fun i σ G => (∃ o2 o3 : Option V, σ = [some (.ref p), some (.ref D), o2, o3]) ∧ Same H G ∧ G D = some (.lst (xs.take i)) ∧ ∀ j, j < i → oddAt xs j = false) ⟨⟨_, _, rfl⟩, begin0⟩ stands ?_ ?_⟩
        · rintro i x TT σ G hi ⟨⟨o2, o3, rfl⟩, eG, gD, hj⟩ hT
          have hlt : i < xs.length := (List.getElem?_eq_some_iff.mp hi).1
          refine ⟨TT, _, rfl, SqT.of upd_same, rfl, .int (i : Nat), _, rfl, x, _, rfl, rfl, ?_⟩
          have e3 : Same G (upd G TT (.tup [.int (i : Nat), x])) := Same.new hT
          obtain ⟨kx, ax⟩ := hA x (List.mem_of_getElem? hi)
          refine ⟨_, rfl, x, kx, rfl, (ax.same eG).same e3, fun G2 e4 => ⟨_, rfl, ?_⟩⟩
          have e5 : Same H G2 := (eG.trans e3).trans e4
          have gD2 : G2 D = some (.lst (xs.take i)) := e4 _ _ (e3 _ _ gD)
          have bad : oddAt xs i = true → ∀ (d : Addr), G2 d = none → E (.ref CA) (some d) (upd G2 d (.xd [("index", .int (i : Nat))])) := fun z d nd => hE i _ d ⟨Nat.le_of_lt hlt, hj, fun _ => z, fun q => absurd q (Nat.ne_of_lt hlt)⟩ (e5.trans (Same.new nd)) (e5.free nd) upd_same
          cases hn : fName x kx with
          | false =>
            refine iteT ⟨_, rfl, _, rfl, fun d nd => bad ?_ d nd⟩
            unfold oddAt
            rw [hi]
            cases x with
            | str y =>
              have hn' : isNameS y = false := hn
              show (!isNameS y || _) = true
              rw [hn'] <;> rfl
            | _ => rfl
          | true =>
            obtain ⟨y, rfl⟩ : ∃ y, x = V.str y := by
              cases x with
              | str y => exact ⟨y, rfl⟩
              | _ => cases hn
            have hn' : isNameS y = true := hn
            have allS : ∀ z ∈ xs.take i, ∃ t, z = V.str t := fun z mz => by
              obtain ⟨j, hj1, hj2⟩ := List.getElem_of_mem mz
              have hj3 : j < i := by
                have q := hj1
                rw [List.length_take] at q
                omega
              have hj4 : xs[j]? = some z := by
                rw [← hj2, List.getElem_take]
                exact List.getElem?_eq_getElem _
              have o := hj j hj3
              unfold oddAt at o
              rw [hj4] at o
              cases z with
              | str t => exact ⟨t, rfl⟩
              | _ => cases o
            have odd : oddAt xs i = decide (V.str y ∈ xs.take i) := by
              unfold oddAt
              rw [hi]
              show (!isNameS y || _) = _
              rw [hn'] <;> rfl
            refine iteF ⟨_, rfl, _, rfl, D, _, rfl, .inl (SqL.of gD2), rfl, ?_, _, rfl, ?_⟩
            · exact List.all_eq_true.mpr fun z mz => by
                obtain ⟨t, rfl⟩ := allS z mz
                rfl
            rw [inV_str y _ allS, ← odd]
            cases ho : oddAt xs i with
            | true => exact iteT ⟨_, rfl, _, rfl, fun d nd => bad ho d nd⟩
            | false =>
              refine iteF ⟨_, rfl, .inl ⟨rfl, _, SqL.of gD2⟩, _, rfl, D, _, _, rfl, rfl, gD2, ?_, ?_⟩
              · rw [List.length_take, sizeLine_eq]
                omega
              · refine ⟨⟨_, _, rfl⟩, fun b o eb => ?_, ?_, fun j hj' => ?_⟩
                · rw [upd_ne (ne_of_none eb nD0)]
                  exact e5 b o eb
                · rw [upd_same, List.take_add_one, hi] <;> rfl
                · by_cases z : j = i
                  · rw [z]
                    exact ho
                  · exact hj j (by omega)
        · rintro σ G ⟨⟨o2, o3, rfl⟩, eG, gD, hj⟩
          rw [List.take_length] at gD
          refine ⟨_, rfl, D, xs, rfl, .inl (SqL.of gD), (xs.length : Int), 2, rfl, rfl, _, rfl, ?_⟩
          refine ite2 (fun h => ?_) (fun h => ?_)
          · have l2 : xs.length < 2 := by
              have z := of_decide_eq_true h
              omega
            refine ⟨_, rfl, D, xs, rfl, .inl (SqL.of gD), _, rfl, fun d nd => ?_⟩
            exact hE xs.length _ d ⟨Nat.le_refl _, hj, fun q => absurd q (Nat.lt_irrefl _), fun _ => l2⟩ (eG.trans (Same.new nd)) (eG.free nd) upd_same
          · have l2 : 2 ≤ xs.length := by
              have z : ¬ ((xs.length : Int) < 2) := fun q => h (decide_eq_true q)
              omega
            refine ⟨_, rfl, D, xs, rfl, .inl ⟨SqL.of gD, fun TT nT => ?_⟩⟩
            exact hQ hj l2 _ TT (eG.trans (Same.new nT)) (eG.free nT) upd_same
end
end OB
namespace OB
open PySem PySem.Spec PyProof.Rows L2
/-! ### a land is made -/
abbrev sLand : Stmt := top 19
abbrev sLandInit : Stmt := inClass sLand 0
abbrev sLandEq : Stmt := inClass sLand 1
abbrev sLandAdr : Stmt := inClass sLand 2
abbrev sLandMost : Stmt := inClass sLand 3
structure LandC (K : PySem.W.Frag) (C : Addr) : Prop where
  cl : Cls K C
  nN : NoAttr K C "_names"
  nM : NoAttr K C "_most"
/-- the land at o: its names in the tuple at T, its most -/
def LandAt (H : Hp) (C o : Addr) (xs : List V) (m : Int) : Prop := ∃ dx T, H o = some (.ins C dx [("_names", .ref T), ("_most", .int m)]) ∧ H T = some (.tup xs)
theorem LandAt.same {H H' : Hp} {C o : Addr} {xs : List V} {m : Int} (h : LandAt H C o xs m) (e : Same H H') : LandAt H' C o xs m := by
  obtain ⟨dx, T, h1, h2⟩ := h
  exact ⟨dx, T, e _ _ h1, e _ _ h2⟩
/-- all but the object at o stands -/
def spLandInit (K : PySem.W.Frag) (C CA CM : Addr) : Sp := fun vs H Q E => ∃ (o dx : Addr) (v m : V) (k km : Kd), vs = [.ref o, v, m] ∧ H o = some (.ins C dx []) ∧ Any K H v k ∧ Any K H m km ∧
  (fSeq v k = false → ∀ H' d, Same H H' → H d = none → H' d = some (.xd [("index", .int 0)]) → E (.ref CA) (some d) H') ∧
  (fSeq v k = true → ∃ (a : Addr) (tp : Bool) (xs : List V), v = .ref a ∧ SqX tp K H a xs ∧ AllAny K H xs ∧ xs.length < 1000 ∧
    (∀ (i : Nat) H' d, DueAt xs i → Same H H' → H d = none → H' d = some (.xd [("index", .int (i : Nat))]) → E (.ref CA) (some d) H') ∧
    ((∀ j, j < xs.length → oddAt xs j = false) → 2 ≤ xs.length →
      (numFrom 1 m km = false → ∀ H' d, ButS o H H' → H d = none → H' d = some (.xd [("most", m)]) → E (.ref CM) (some d) H') ∧
      (∀ i, m = .int i → 1 ≤ i → ∀ H', ButS o H H' → LandAt H' C o xs i → Q .non H')))
theorem Any.put {K : PySem.W.Frag} {H H' : Hp} {o C dx : Addr} {fs gs : List (Str × V)} {v : V} {k : Kd} (h : Any K H v k) (h1 : H o = some (.ins C dx fs)) (h2 : H' o = some (.ins C dx gs)) (b : ButS o H H') : Any K H' v k := by
  cases h with
  | non => exact .non
  | bl b => exact .bl b
  | int i => exact .int i
  | str h => exact .str h
  | @lst a xs q => exact .lst (b _ _ (fun z => by rw [z, h1] at q; cases q) q)
  | @tup a xs q => exact .tup (b _ _ (fun z => by rw [z, h1] at q; cases q) q)
  | @dct a kvs q => exact .dct (b _ _ (fun z => by rw [z, h1] at q; cases q) q)
  | @odt a φ q c => exact .odt (b _ _ (fun z => by rw [z, h1] at q; cases q) q) c
  | fn q c => exact .fn q c
  | @ins a C2 dx2 fs2 q oc =>
    by_cases z : a = o
    · rw [z, h1] at q
      cases q
      rw [z]
      exact .ins h2 oc
    · exact .ins (b _ _ z q) oc
theorem ButS.free {o d : Addr} {H H' : Hp} {u : HO} (b : ButS o H H') (ho : H' o = some u) (hd : H' d = none) : H d = none := by
  cases q : H d with
  | none => rfl
  | some x =>
    by_cases z : d = o
    · rw [z, ho] at hd
      cases hd
    · rw [b _ _ z q] at hd
      cases hd
section
variable {P : Program} {w : World} {K : PySem.W.Frag} {mg : Str → Option Value} {base : Heap}
theorem scLandInit : FnScope ["self", "addresses", "most"] ["self", "addresses", "most"] (defScope sLandInit) := ⟨rfl, rfl, rfl, by decide +kernel, rfl, by decide +kernel, by decide +kernel⟩
theorem ok_landInit {f fT fO C CA CM fM : Addr} {fd fdT fdO : FuncData} (F : Fun K "__init__" "Land.__init__" sLandInit f fd) (GT : FnOk P w K mg base (L2.CX P w) 3 fT fdT ["addresses"] (spNames K CA)) (gT : mg "told_names" = some (.ref fT)) (kT : PySem.W.keepIn K (.ref fT) = true) (bT : Binds K fdT ["addresses"] [])
    (GO : FnOk P w K mg base CX0 2 fO fdO ["thing"] (spAsk K (numFrom 1))) (gO : mg "is_from_one" = some (.ref fO)) (kO : PySem.W.keepIn K (.ref fO) = true) (bO : Binds K fdO ["thing"] []) (LC : LandC K C) (EM : ErrK P K mg "BadMost" CM fM "most") (htop : (P.main.scope.names.lookup ("super" : Str)).isSome = false) :
    FnOk P w K mg base (L2.CX P w) 4 f fd ["self", "addresses", "most"] (spLandInit K C CA CM) := by
  refine F.okX scLandInit (fun vs H Q E h => ?_) (fun cdv A outer s H vs Q E hr h => ?_)
  · obtain ⟨o, dx, v, m, k, km, rfl, _⟩ := h
    rfl
  · obtain ⟨o, dx, v, m, k, km, rfl, ho, a, am, hbad, hok⟩ := h
    have nd := scLandInit.nd
    have hr2 : Room 2 (A.deeper (envOfC "Land.__init__" (defScope sLandInit) s.heap.objs.size f cdv)) := hr.mono (by decide)
    refine ⟨_, pss_cons (ps_fld (pv 0) (pe_callS GT hr (by rfl) gT kT bT (fun σ => passAt (takes_of rfl rfl rfl rfl) σ) (pa_cons (pv 1) pa_nil)) rfl)
      (pss_cons (ps_if (pt_not (pt_val (pe_call GO hr2 (by rfl) gO kO bO .nil pass0 (pa_cons (pv 2) pa_nil))))
        (pss_one (ps_raise rfl (takes_of rfl rfl rfl rfl) (pmk_err EM.T EM.B hr htop (by rfl) EM.g EM.k EM.ex EM.ty (by exact (pa_cons (pv 2) pa_nil)) rfl))) pss_nil)
      (pss_one (ps_fld (pv 0) (pv 2) rfl))), ?_⟩
    refine ⟨_, rfl, v, k, rfl, a, fun hf H' d e nd' hd => hbad hf H' d e nd' hd, fun hf => ?_⟩
    obtain ⟨p, tp, xs, rfl, hx, hA, hlen, hE, hQ⟩ := hok hf
    refine ⟨p, tp, xs, rfl, hx, hA, hlen, fun i H' d hi e nd' hd => hE i H' d hi e nd' hd, fun hj l2 H1 T e1 nT gT1 => ?_⟩
    obtain ⟨q1, q2⟩ := hQ hj l2
    have ho1 := e1 _ _ ho
    refine ⟨_, rfl, o, C, dx, _, rfl, ho1, LC.cl, LC.nN, by decide, ?_⟩
    have oT : T ≠ o := fun z => by
      rw [z, ho] at nT
      cases nT
    have B2 : ButS o H (upd H1 o (.ins C dx [("_names", .ref T)])) := (ButS.same e1).trans ButS.put
    have T3 : (upd H1 o (.ins C dx [("_names", .ref T)])) T = some (.tup xs) := by
      rw [upd_ne oT]
      exact gT1
    have o3 : (upd H1 o (.ins C dx [("_names", .ref T)])) o = some (.ins C dx [("_names", .ref T)]) := upd_same
    show tSeq _ _ _ _ (upd H1 o (.ins C dx [("_names", .ref T)]))
    generalize upd H1 o (.ins C dx [("_names", .ref T)]) = H3 at B2 T3 o3 ⊢
    refine ⟨_, rfl, m, km, rfl, am.put ho o3 B2, fun H4 e4 => ⟨_, rfl, ?_⟩⟩
    have B4 : ButS o H H4 := B2.trans (ButS.same e4)
    have o4 := e4 _ _ o3
    cases hn : numFrom 1 m km with
    | false => exact iteT ⟨_, rfl, _, rfl, fun d nd' => q1 hn _ d (B4.trans (ButS.same (Same.new nd'))) (B4.free o4 nd') upd_same⟩
    | true =>
      obtain ⟨i, rfl, hi⟩ : ∃ i, m = V.int i ∧ 1 ≤ i := by
        cases m with
        | int i => exact ⟨i, rfl, of_decide_eq_true hn⟩
        | _ => cases hn
      refine iteF ⟨_, rfl, _, rfl, o, C, dx, _, rfl, o4, LC.cl, LC.nM, by show 1 < 1000; decide, ?_⟩
      exact q2 i rfl hi _ (B4.trans ButS.put) ⟨dx, T, upd_same, by rw [upd_ne oT]; exact e4 _ _ T3⟩
end
end OB
namespace OB
open PySem PySem.Spec PyProof.Rows L2
/-! ### what a land tells -/
def spLandAdr (C : Addr) : Sp := fun vs H Q _ => ∃ (o : Addr) (xs : List V) (m : Int), vs = [.ref o] ∧ LandAt H C o xs m ∧ ∀ H' l, Same H H' → H l = none → H' l = some (.lst xs) → Q (.ref l) H'
def spLandMost (C : Addr) : Sp := fun vs H Q _ => ∃ (o : Addr) (xs : List V) (m : Int), vs = [.ref o] ∧ LandAt H C o xs m ∧ Q (.int m) H
section
variable {P : Program} {w : World} {K : PySem.W.Frag} {mg : Str → Option Value} {base : Heap}
theorem scLandAdr : FnScope ["self"] ["self"] (defScope sLandAdr) := ⟨rfl, rfl, rfl, by decide +kernel, rfl, by decide +kernel, by decide +kernel⟩
theorem scLandMost : FnScope ["self"] ["self"] (defScope sLandMost) := ⟨rfl, rfl, rfl, by decide +kernel, rfl, by decide +kernel, by decide +kernel⟩
theorem ok_landAdr {f C : Addr} {fd : FuncData} (F : Fun K "addresses" "Land.addresses" sLandAdr f fd) (LC : LandC K C) (T : TxtC mg) : FnOk P w K mg base CX0 1 f fd ["self"] (spLandAdr C) := by
  refine F.ok scLandAdr (fun vs H Q E h => ?_) (fun cdv A outer s H vs Q E hr h => ?_)
  · obtain ⟨o, xs, m, rfl, _⟩ := h
    rfl
  · obtain ⟨o, xs, m, rfl, ⟨dx, TT, h1, h2⟩, q⟩ := h
    refine ⟨_, pss_one (ps_ret (pe_callTy call_list_of (by rfl) T.list (by decide +kernel) (pa_cons (pe_fld (pv 0) rfl) pa_nil))), ?_⟩
    refine ⟨_, rfl, o, C, dx, _, _, rfl, h1, LC.cl, LC.nN, by rfl, TT, xs, rfl, .inr (SqT.of h2), fun l nl => q _ l (Same.new nl) nl upd_same⟩
theorem ok_landMost {f C : Addr} {fd : FuncData} (F : Fun K "most" "Land.most" sLandMost f fd) (LC : LandC K C) : FnOk P w K mg base CX0 1 f fd ["self"] (spLandMost C) := by
  refine F.ok scLandMost (fun vs H Q E h => ?_) (fun cdv A outer s H vs Q E hr h => ?_)
  · obtain ⟨o, xs, m, rfl, _⟩ := h
    rfl
  · obtain ⟨o, xs, m, rfl, ⟨dx, TT, h1, h2⟩, q⟩ := h
    exact ⟨_, pss_one (ps_ret (pe_fld (pv 0) rfl)), _, rfl, o, C, dx, _, _, rfl, h1, LC.cl, LC.nM, by rfl, q⟩
end
end OB
namespace OB
open PySem PySem.Spec PyProof.Rows L2
/-! ### == by the text's own __eq__, whatever stands on the right -/
def rEqO (K : PySem.W.Frag) (C : Addr) (sp : Sp) : R2 := fun x y H Q => ∃ (o dx : Addr) (fs : List (Str × V)) (t : Value), x = .ref o ∧ H o = some (.ins C dx fs) ∧ TyA K H y t ∧ PySem.W.notFirst K C t = true ∧ sp [.ref o, y] H (fun v H' => ∃ b : Bool, v = .bl b ∧ Q (.bl b) H') E0
theorem op_eqO {X : Cx} {n : Nat} {C f : Addr} {fd : FuncData} {ps : List Str} {sp : Sp} (F : FnOk X.prog X.w X.K X.mg X.base CX0 n f fd ps sp) (hr : Room n X.A) (hs : PySem.W.findIn X.K (.ref C) "__eq__" = some (some (.ref f))) (hf : PySem.W.isFn X.K (.ref f) = true) (hb : Binds X.K fd ps []) :
    OpR X (compareOp .Eq) (rEqO X.K C sp) := by
  intro pins s σ H x y v u Q I rx ry h
  obtain ⟨o, dx, fs, t, rfl, ho, ty, nf, hsp⟩ := h
  cases rx
  show wpAny (model X.prog X.w) X.A (richCompare .Eq (.ref o) u) (EP X pins σ Q) X.xe s
  obtain ⟨mA, J, _⟩ := ins_get I.hok ho
  obtain ⟨od, J, _⟩ := J.look
  obtain ⟨m, hF⟩ := I.fr
  obtain ⟨P, Z, p, _⟩ := kitA_of I ry ty
  refine PySem.W.cmp_K (op := .Eq) (tb := t) hr.units0 hF I.ok.mod.kin J (Z.ty _ _ I.kIn p) nf hs hf ?_
  have hv : Vals [V.ref o, y] [Value.ref o, u] := .cons rfl (.cons ry .nil)
  refine wpAny_mono (run_fn (dvs := []) (ds := []) F hr hb .nil pass0 I hv hsp) (fun w s' q => ?_) fun _ _ e => e
  obtain ⟨z, H', I', rz, b, rfl, q'⟩ := q
  cases rz
  exact ⟨.bl b, H', I', rfl, q'⟩
end OB
namespace OB
open PySem PySem.Spec PyProof.Rows L2
open Sem (wp)
/-! ### != where the class has an own __eq__ and no __ne__ -/
def rNeO (K : PySem.W.Frag) (C : Addr) (sp : Sp) : R2 := fun x y H Q => ∃ (o dx : Addr) (fs : List (Str × V)) (t : Value), x = .ref o ∧ H o = some (.ins C dx fs) ∧ TyA K H y t ∧ PySem.W.notFirst K C t = true ∧ sp [.ref o, y] H (fun v H' => ∃ b : Bool, v = .bl b ∧ Q (.bl (!b)) H') E0
section
variable {X : Cx} {n : Nat} {C f : Addr} {fd : FuncData} {ps : List Str} {sp : Sp}
/-- the text's own __eq__, called from within a built-in -/
theorem eq_in1 {pins : List (Addr × Obj)} {σ : L2.St} {H : Hp} {s : Shared} {o : Addr} {y : V} {u : Value} {Q : VK} (F : FnOk X.prog X.w X.K X.mg X.base CX0 n f fd ps sp) (hr : Room n X.A.in1) (hb : Binds X.K fd ps []) (I : Inv X pins σ H s) (ry : RelV y u) (hsp : sp [.ref o, y] H Q E0) {E : Value → Shared → Prop} :
    wpAny (model X.prog X.w) X.A.in1 (call (.ref f) [.ref o, u]) (EP X pins σ Q) E s := by
  have e := I.env0
  have e0 : Env0 X.prog X.w X.K X.mg X.base X.A.in1 X.stack s H := ⟨e.frames, e.mod, e.bs, e.bsz, e.funs, e.frf, e.hok, e.bare⟩
  have hl := F.len _ _ _ _ hsp
  have b := hb s [.ref o, u] I.kIn (by simpa using hl)
  rw [List.append_nil] at b
  refine wpAny_call (codeAny_mono (F.run X.A.in1 X.stack s H ⟨[.ref o, u], []⟩ [.ref o, u] [.ref o, y] Q E0 hr e0 b (.cons rfl (.cons ry .nil)) hsp) fun r s' hq => ?_)
  cases r with
  | error e => exact (show False from hq).elim
  | ok fl =>
    cases fl with
    | ret w => exact I.after hq
    | next => exact False.elim hq
    | brk => exact False.elim hq
    | cont => exact False.elim hq
theorem op_neO (G : FnOk X.prog X.w X.K X.mg X.base CX0 n f fd ps sp) (hr : Room (n + 1) X.A) (hs : PySem.W.findIn X.K (.ref C) "__eq__" = some (some (.ref f))) (hf : PySem.W.isFn X.K (.ref f) = true) (hb : Binds X.K fd ps [])
    (hne : PySem.W.findIn X.K (.ref C) "__ne__" = some (some (.builtin "object.__ne__"))) (hob : PySem.W.subIn X.K (.ref C) (.type "object") = some true) : OpR X (compareOp .NotEq) (rNeO X.K C sp) := by
  intro pins s σ H x y v u Q I rx ry h
  obtain ⟨o, dx, fs, t, rfl, ho, ty, nf, hsp⟩ := h
  cases rx
  show wpAny (model X.prog X.w) X.A (richCompare .NotEq (.ref o) u) (EP X pins σ Q) X.xe s
  obtain ⟨mA, J, _⟩ := ins_get I.hok ho
  obtain ⟨od, J, _⟩ := J.look
  obtain ⟨P, Z, p, _⟩ := kitA_of I ry ty
  have hu1 : X.A.in1.units < cLine := hr.in1.units0
  have called : wpAny (model X.prog X.w) X.A (call (.builtin "object.__ne__") [.ref o, u]) (fun w s' => ∃ c : Bool, w = .bool c ∧ EP X pins σ Q w s') X.xe s := by
    refine wpAny_call (codeAny_call_builtin PySem.F.cmp_object.ne.plain PySem.F.cmpEntry_ne ?_)
    simp only [checkBuiltinCall, PySem.F.cmpKind_ne, PySem.F.cmpSplit_ne]
    refine wpAny_bind ?_
    unfold isInstance
    refine wpAny_bind (J.type.here ?_)
    refine (PySem.W.looks_subIn I.kIn hob).here ?_
    have chk := PySem.F.cmpArgs_ne (.ref o) u
    have entry : wpAny (model X.prog X.w) X.A.in1 (Builtin.«object.__ne__» ⟨[.ref o, u], []⟩) (fun fin s' => ∃ w, fin = .done (.ret w) ∧ ∃ c : Bool, w = .bool c ∧ EP X pins σ Q w s') X.xe s := by
      unfold Builtin.«object.__ne__»
      have eq1 : wpAny (model X.prog X.w) X.A.in1 (callSpecialIfBound? (.ref o) "__eq__" [u]) (fun r s' => ∃ b : Bool, r = some (.bool b) ∧ EP X pins σ Q (.bool (!b)) s') X.xe s := by
        refine PySem.W.ifBound_K I.kIn J hs hf (wpAny_mono (eq_in1 G hr.in1 hb I ry hsp) (fun w s' q => ?_) fun _ _ e => e)
        obtain ⟨z, H', I', rz, b, rfl, q'⟩ := q
        cases rz
        exact ⟨b, rfl, .bl (!b), H', I', rfl, q'⟩
      refine wpAny_bind (m := slotArgs "__ne__" 1 _) (wpAny_of_eq (a := (Value.ref o, [u])) (by first | rfl | kernel_rfl!) ?_)
      dsimp only
      refine wpAny_bind (wpAny_cRoomFor hu1 ?_)
      refine wpAny_bind (wpAny_mono eq1 (fun r s' q => ?_) fun _ _ e => e)
      obtain ⟨b, rfl, q'⟩ := q
      dsimp only
      refine wpAny_bind (wpAny_truthy_bool ?_)
      exact wpAny_pure ⟨_, rfl, _, rfl, q'⟩
    have ran : wpAny (model X.prog X.w) X.A.in1 (Builtin.«object.__ne__» ⟨[.ref o, u], []⟩) (fun fin s' => match fin with
        | .done fl => (match (Except.ok fl : Result) with
          | .ok (.ret w) => ∃ c : Bool, w = .bool c ∧ EP X pins σ Q w s'
          | .ok _ => False
          | .error e => X.xe e s')
        | .again c' => c'.quiet = true ∧ codeAny (model X.prog X.w) X.A c' (fun r s' => match r with
          | .ok (.ret w) => ∃ c : Bool, w = .bool c ∧ EP X pins σ Q w s'
          | .ok _ => False
          | .error e => X.xe e s') s') (fun e s' => X.xe e s') s := wpAny_mono entry (fun fin s' q => by
      obtain ⟨w, rfl, q'⟩ := q
      exact q') fun _ _ e => e
    rw [if_neg (by decide)]
    cases hsig : Manifest.signature? "object.__ne__" with
    | none => exact wpAny_pure ran
    | some sig =>
      simp only [argsOk, hsig] at chk
      have h2 : Bind.checkArgs "object.__ne__" sig ⟨[.ref o, u], []⟩ = pure () := chk
      show wpAny _ _ (Bind.checkArgs "object.__ne__" sig ⟨[.ref o, u], []⟩) _ _ _
      rw [h2]
      exact wpAny_pure ran
  have one : wpAny (model X.prog X.w) X.A (tryCompare (.ref o) (cmpInfo .NotEq).2.1 u) (fun r s' => ∃ v, r = some v ∧ EP X pins σ Q v s') X.xe s := by
    unfold tryCompare
    refine wpAny_bind ?_
    simp only [callSpecialIfBound?, bindSpecialIfBound?]
    refine wpAny_holding (wpAny_bind (wpAny_bind (wpAny_bind (J.type.here ((PySem.W.looks_findIn I.kIn hne).here ?_)))))
    refine wpAny_bind (wpAny_askSetting (wpAny_ite ?_))
    have fin : wpAny (model X.prog X.w) X.A (call (.builtin "object.__ne__") ([.ref o] ++ [u]) >>= fun v => pure (some v)) (fun a s' => wpAny (model X.prog X.w) X.A (match a with
        | some Value.notImplemented => pure none
        | none => pure none
        | some r => pure (some r)) (fun r s' => ∃ v, r = some v ∧ EP X pins σ Q v s') X.xe s') X.xe s := wpAny_bind (wpAny_mono called (fun w s' q => by
      obtain ⟨c, rfl, q'⟩ := q
      exact wpAny_pure (wpAny_pure ⟨_, rfl, q'⟩)) fun _ _ e => e)
    have bnd := PySem.F.cmp_object.ne.bind (.ref o)
    split
    · rw [bnd]
      exact wpAny_bind (wpAny_pure (wpAny_pure fin))
    · rw [bnd]
      exact wpAny_tryCatch (wpAny_bind (wpAny_pure (wpAny_pure fin)))
  unfold richCompare
  simp only [oneThing_ref]
  refine wpAny_holding (wpAny_bind (wpAny_cRoomFor hr.units0 ?_))
  refine wpAny_bind (J.type.here (wpAny_bind ((Z.ty _ _ I.kIn p).here ?_)))
  have last : wpAny (model X.prog X.w) X.A (tryCompare (.ref o) (cmpInfo .NotEq).2.1 u) (fun r s' => ∃ v, r = some v ∧ EP X pins σ Q v s') X.xe s := one
  split
  · rename_i q
    have e : PySem.W.subIn X.K t (.ref C) = some false := by
      rcases Bool.or_eq_true_iff.mp nf with e | e
      · rw [beq_iff_eq.mp e] at q
        simp at q
      · exact beq_iff_eq.mp e
    refine wpAny_bind ((PySem.W.looks_subIn I.kIn e).here ?_)
    simp only [Bool.false_eq_true, if_false]
    refine wpAny_bind (wpAny_mono last (fun r s' z => ?_) fun _ _ e => e)
    obtain ⟨w, rfl, hq⟩ := z
    exact wpAny_pure hq
  · refine wpAny_bind (wpAny_pure ?_)
    simp only [Bool.false_eq_true, if_false]
    refine wpAny_bind (wpAny_mono last (fun r s' z => ?_) fun _ _ e => e)
    obtain ⟨w, rfl, hq⟩ := z
    exact wpAny_pure hq
end
end OB
namespace OB
open PySem PySem.Spec PyProof.Rows L2
/-! ### lands compared -/
theorem depth_txt : ∀ ss : List Str, PyData.depthAll (ss.map PyData.str) = 0
  | [] => rfl
  | _ :: ss => by
    show max 0 (PyData.depthAll (ss.map PyData.str)) = 0
    rw [depth_txt ss] <;> rfl
theorem lay_txt : ∀ ss : List Str, (∀ s ∈ ss, PyData.canLay0 (.str s) = true) → PyData.canLayAll0 (ss.map PyData.str) = true
  | [], _ => rfl
  | s :: ss, h => by
    show (PyData.canLay0 (.str s) && PyData.canLayAll0 (ss.map PyData.str)) = true
    rw [lay_txt ss fun x m => h x (List.mem_cons_of_mem _ m), h s (List.mem_cons_self ..)] <;> rfl
theorem shaped_txt (ss : List Str) (h : ∀ s ∈ ss, PyData.canLay0 (.str s) = true) : SeqAt.shaped (.tuple (ss.map PyData.str)) = true := by
  show (PyData.canLayAll0 (ss.map PyData.str) && decide (PyData.depthAll (ss.map PyData.str) + 1 ≤ 64)) = true
  rw [lay_txt ss h, depth_txt] <;> rfl
theorem dp_txt {K : PySem.W.Frag} {H : Hp} : ∀ ss : List Str, DpAll K H (ss.map V.str) (ss.map PyData.str)
  | [] => .nil
  | s :: ss => .cons (.str s) (dp_txt ss)
theorem eqv_txt : ∀ ss ts : List Str, PyData.eqvAll (ss.map PyData.str) (ts.map PyData.str) = decide (ss = ts)
  | [], [] => by simp [PyData.eqvAll]
  | [], _ :: _ => by simp [PyData.eqvAll]
  | _ :: _, [] => by simp [PyData.eqvAll]
  | s :: ss, t :: ts => by
    show (PyData.eqv (.str s) (.str t) && PyData.eqvAll (ss.map PyData.str) (ts.map PyData.str)) = _
    rw [eqv_txt ss ts]
    show ((s == t) && decide (ss = ts)) = _
    by_cases e : s = t
    · subst e
      simp
    · have z : (s == t) = false := beq_eq_false_iff_ne.mpr e
      rw [z, Bool.false_and]
      exact (decide_eq_false fun q => e (List.cons.inj q).1).symm
def spLandEq (K : PySem.W.Frag) (C : Addr) : Sp := fun vs H Q _ => ∃ (o : Addr) (ss : List Str) (m : Int) (y : V) (t : Value), vs = [.ref o, y] ∧ LandAt H C o (ss.map V.str) m ∧ (∀ s ∈ ss, PyData.canLay0 (.str s) = true) ∧ TyA K H y t ∧
  ((∃ (oy : Addr) (ts : List Str) (my : Int), y = .ref oy ∧ LandAt H C oy (ts.map V.str) my ∧ (∀ s ∈ ts, PyData.canLay0 (.str s) = true) ∧ PySem.W.kitOne K t (.ref C) = some true ∧ Q (.bl (decide (ss = ts ∧ m = my))) H) ∨ (PySem.W.kitOne K t (.ref C) = some false ∧ Q (.bl false) H))
section
variable {P : Program} {w : World} {K : PySem.W.Frag} {mg : Str → Option Value} {base : Heap}
theorem scLandEq : FnScope ["self", "other"] ["self", "other"] (defScope sLandEq) := ⟨rfl, rfl, rfl, by decide +kernel, rfl, by decide +kernel, by decide +kernel⟩
theorem ok_landEq {f C : Addr} {fd : FuncData} (F : Fun K "__eq__" "Land.__eq__" sLandEq f fd) (LC : LandC K C) (T : TxtC mg) (gC : mg "Land" = some (.ref C)) : FnOk P w K mg base CX0 1 f fd ["self", "other"] (spLandEq K C) := by
  refine F.ok scLandEq (fun vs H Q E h => ?_) (fun cdv A outer s H vs Q E hr h => ?_)
  · obtain ⟨o, ss, m, y, t, rfl, _⟩ := h
    rfl
  · obtain ⟨o, ss, m, y, t, rfl, ⟨dx, TT, h1, h2⟩, os, ty, q⟩ := h
    refine ⟨_, pss_one (ps_ret (pe_and (pe_callB call_isA (by rfl) T.isi bootIsi (pa_cons (pv 1) (pa_cons (pe_glob (v := .ref C) (by rfl) gC rfl) pa_nil)))
      (pe_and (pe_cmpR (op_eqD hr.units) (pe_fld (pv 0) rfl) (pe_fld (pv 1) rfl) (nomark _)) (pe_one (pe_cmpR op_eq (pe_fld (pv 0) rfl) (pe_fld (pv 1) rfl) (nomark _)))))), ?_⟩
    rcases q with ⟨oy, ts, my, rfl, ⟨dy, TY, g1, g2⟩, ot, kt, q⟩ | ⟨kt, q⟩
    · refine ⟨_, rfl, .ref oy, .ref C, t, .ref C, true, rfl, .own C, ty, kt, true, rfl, iteT ?_⟩
      refine ⟨_, rfl, o, C, dx, _, _, rfl, h1, LC.cl, LC.nN, by rfl, _, rfl, oy, C, dy, _, _, rfl, g1, LC.cl, LC.nN, by rfl, ?_⟩
      refine ⟨_, _, .tup (SqT.of h2) (dp_txt ss), .tup (SqT.of g2) (dp_txt ts), shaped_txt ss os, shaped_txt ts ot, _, rfl, ?_⟩
      have e : PyData.eqv (.tuple (ss.map PyData.str)) (.tuple (ts.map PyData.str)) = decide (ss = ts) := eqv_txt ss ts
      rw [e]
      by_cases z : ss = ts
      · rw [decide_eq_true z]
        refine iteT ⟨_, rfl, o, C, dx, _, _, rfl, h1, LC.cl, LC.nM, by rfl, _, rfl, oy, C, dy, _, _, rfl, g1, LC.cl, LC.nM, by rfl, rfl, ?_⟩
        have e2 : decide (V.int m = V.int my) = decide (ss = ts ∧ m = my) := decide_eq_decide.mpr ⟨fun y => ⟨z, V.int.inj y⟩, fun y => by rw [y.2]⟩
        rw [e2]
        exact q
      · rw [decide_eq_false z]
        refine iteF ?_
        have e2 : decide (ss = ts ∧ m = my) = false := decide_eq_false fun y => z y.1
        rw [e2] at q
        exact q
    · exact ⟨_, rfl, y, .ref C, t, .ref C, false, rfl, .own C, ty, kt, false, rfl, iteF q⟩
end
end OB
namespace OB
open PySem PySem.Spec PyProof.Rows L2
/-! ### parts of a deed -/
def wordIn (ss : List Str) (v : V) : Bool := match v with
  | .str x => decide (x ∈ ss)
  | _ => false
def spWord (K : PySem.W.Frag) : Sp := fun vs H Q _ => ∃ (a : Addr) (ss : List Str) (v : V) (k : Kd), vs = [.ref a, v] ∧ SqL K H a (ss.map V.str) ∧ Any K H v k ∧ ∀ H', Same H H' → Q (.bl (wordIn ss v)) H'
theorem flat_txt : ∀ ss : List Str, (ss.map V.str).all flatV = true
  | [] => rfl
  | _ :: ss => by
    show (true && (ss.map V.str).all flatV) = true
    rw [flat_txt ss] <;> rfl
theorem inV_txt (x : Str) (ss : List Str) : inV (.str x) (ss.map V.str) = decide (x ∈ ss) := by
  rw [inV_str x _ fun y m => by
    obtain ⟨s, _, rfl⟩ := List.mem_map.mp m
    exact ⟨s, rfl⟩]
  apply decide_eq_decide.mpr
  constructor
  · intro m
    obtain ⟨s, ms, e⟩ := List.mem_map.mp m
    rw [← V.str.inj e]
    exact ms
  · exact fun m => List.mem_map.mpr ⟨x, m, rfl⟩
section
variable {P : Program} {w : World} {K : PySem.W.Frag} {mg : Str → Option Value} {base : Heap}
theorem scIsWord : FnScope ["words", "thing"] ["words", "thing"] (defScope sIsWord) := ⟨rfl, rfl, rfl, by decide +kernel, rfl, by decide +kernel, by decide +kernel⟩
theorem ok_isWord {f : Addr} {fd : FuncData} (F : Fun K "is_word_of" "is_word_of" sIsWord f fd) (T : TxtC mg) : FnOk P w K mg base CX0 1 f fd ["words", "thing"] (spWord K) := by
  refine F.ok scIsWord (fun vs H Q E h => ?_) (fun cdv A outer s H vs Q E hr h => ?_)
  · obtain ⟨a, ss, v, k, rfl, _⟩ := h
    rfl
  · obtain ⟨a, ss, v, k, rfl, hs, av, q⟩ := h
    obtain ⟨t, S⟩ := av.says
    refine ⟨_, pss_one (ps_ret (pe_and (pe_callB call_isA (by rfl) T.isi bootIsi (pa_cons (pv 1) (pa_cons (pe_bltn (v := .ty "str") (u := .type "str") (by rfl) T.str bStr rfl) pa_nil)))
      (pe_one (pe_cmpR op_in_seq (pv 1) (pv 0) (by rfl))))), ?_⟩
    refine ⟨_, rfl, v, .ty "str", t, .type "str", _, rfl, .ty _, S.ty, S.str, _, rfl, ?_⟩
    have q' := q H (Same.refl H)
    cases av with
    | @str x hx =>
      refine iteT ⟨_, rfl, _, rfl, a, _, rfl, .inl hs, rfl, flat_txt ss, ?_⟩
      have e : inV (.str x) (ss.map V.str) = wordIn ss (.str x) := inV_txt x ss
      show Q (.bl (inV (.str x) (ss.map V.str))) H
      rw [e]
      exact q'
    | _ => exact iteF q'
end
end OB
namespace OB
open PySem PySem.Spec PyProof.Rows
/-! ### how many unlike texts a list has -/
def few (xs : List Str) : Nat → Nat
  | 0 => 0
  | i + 1 => if (xs.take i).any (· == xs.getD i Str.empty) then few xs i else few xs i + 1
theorem few_le (xs : List Str) : ∀ i, few xs i ≤ i
  | 0 => Nat.le_refl _
  | i + 1 => by
    have z := few_le xs i
    unfold few
    split <;> omega
theorem take_more {xs : List Str} {i : Nat} (h : i < xs.length) : xs.take (i + 1) = xs.take i ++ [xs.getD i Str.empty] := by
  rw [List.take_add_one, List.getElem?_eq_getElem h, List.getD_eq_getElem?_getD, List.getElem?_eq_getElem h] <;> rfl
theorem any_more {xs : List Str} {i : Nat} (h : i < xs.length) (y : Str) : ((xs.take i).any (· == y) || decide (y = xs.getD i Str.empty)) = (xs.take (i + 1)).any (· == y) := by
  rw [take_more h, List.any_append]
  congr 1
  generalize xs.getD i Str.empty = z
  by_cases e : y = z
  · subst e
    simp
  · have q : (z == y) = false := beq_eq_false_iff_ne.mpr fun x => e x.symm
    simp [q, e]
def freshS (led : Bool) : Obj := { cls := .type "set", dict := none, data := .set #[] 0 (.fresh 0 0 led) }
section
variable {prog : Program} {w : World} {A : Around} {R : Result → Shared → Prop} {J : Addr} {fp wr : List Addr} {G : Array GenState → Array GenState → Prop} {n : Nat} {Pv : Nat → Value → Prop} {St : Nat → Shared → Prop}
theorem loopT (Wk : WalksS prog w A.in1 J fp wr G n Pv St) (D : Addr) (nD : D ∉ fp) (xs : List Str) (hlen : xs.length = n) (hv : ∀ i v, Pv i v → ∃ t, v = .str (xs.getD i Str.empty) t) (hb : n + 1 < scanBound) :
    ∀ (r i : Nat) (s : Shared), n - i = r → i ≤ n → St i s → s.heap.SetOf (PySem.strKind prog w) D (fun y => (xs.take i).any (· == y)) (few xs i) →
      (∀ s', Moved (D :: wr) G s s' → s'.heap.SetOf (PySem.strKind prog w) D (fun y => (xs.take n).any (· == y)) (few xs n) → R (.ok (.ret .none)) s') →
      codeAny (model prog w) A (.builtin "set.update.loop" ⟨[.ref D, .ref J], []⟩) R s := by
  have nDw : D ∉ wr := fun q => nD (Wk.sub _ q)
  have more : ∀ b ∈ wr, b ∈ D :: wr := fun b q => List.mem_cons_of_mem _ q
  have stay : ∀ {s s' : Shared} {f : Str → Bool} {m : Nat}, Moved wr G s s' → s.heap.SetOf (PySem.strKind prog w) D f m → s'.heap.SetOf (PySem.strKind prog w) D f m := fun mv z => by
    obtain ⟨o, es, ep, tb, g1, g2⟩ := z
    exact ⟨o, es, ep, tb, mv.heap D _ nDw g1, g2⟩
  intro r
  induction r with
  | zero =>
    intro i s e1 e2 st hD fin
    obtain rfl : i = n := by omega
    refine codeAny_builtin PyProof.Rows.F.entry_set_update_loop (by
      rw [Around.under_plainId PyProof.Rows.F.plain_set_update_loop _]
      show wpAny _ A.in1 (pyNext (.ref J) >>= _) _ _ s
      exact wpAny_bind (Wk.done s _ _ st fun s' mv => wpAny_pure (fin s' (mv.mono more) (stay mv hD))))
  | succ r ih =>
    intro i s e1 e2 st hD fin
    have lt : i < n := by omega
    refine codeAny_builtin PyProof.Rows.F.entry_set_update_loop (by
      rw [Around.under_plainId PyProof.Rows.F.plain_set_update_loop _]
      show wpAny _ A.in1 (pyNext (.ref J) >>= _) _ _ s
      refine wpAny_bind (Wk.item i s _ _ lt st fun v s' pv st' mv => ?_)
      obtain ⟨t, rfl⟩ := hv i v pv
      have hD1 := stay mv hD
      show wpAny _ A.in1 (holding [Value.str (xs.getD i Str.empty) t] (setAdd D (.str (xs.getD i Str.empty) t)) >>= _) _ _ s'
      refine wpAny_bind (wpAny_holding (by
        unfold setAdd
        refine wpAny_holding (wpAny_bind ((PySem.strKind prog w).pyHash (k := xs.getD i Str.empty) (strKind_is _ _ _ _) ?_))
        have room : few xs i + 1 < scanBound := by
          have z := few_le xs i
          omega
        refine wpAny_setAddHashed_of (knd := PySem.strKind prog w) (s := { s' with toks := s'.toks + 1 }) (strKind_is _ _ _ _) rfl hD1 room fun g sb hD2 => ?_
        have hD3 : g.SetOf (PySem.strKind prog w) D (fun y => (xs.take (i + 1)).any (· == y)) (few xs (i + 1)) := SetOf_congr hD2 (fun y => any_more (by omega) y) rfl
        refine wpAny_pure ⟨plainId_quiet PyProof.Rows.F.plain_set_update_loop _, ih (i + 1) _ (by omega) lt (Wk.frame _ s' _ _ st' (Nat.le_succ _) fun b m o e => ?_) hD3 fun s2 mv2 hD4 => ?_⟩
        · rw [sb.2 b (fun z : b = D => nD (z ▸ m))]
          exact e
        · refine fin s2 (Moved.trans Wk.gtrans ((mv.mono more).then_heap (Nat.le_succ _) fun b o m e => ?_) mv2) hD4
          rw [sb.2 b (fun z : b = D => m (z ▸ List.mem_cons_self))]
          exact e)))
end
end OB
namespace OB
open PySem PySem.Spec PyProof.Rows
open SS (strs_at)
section
variable {prog : Program} {w : World} {A : Around} {E : Value → Shared → Prop} {s : Shared}
/-- set(a list of texts) -/
theorem call_setT {l : Addr} {its : Array Value} {xs : List Str} {Q : Value → Shared → Prop} (hh : A.handled = none) (hl : s.heap.IsList l its) (hi : StrsAre its.toList xs) (hb : its.size + 1 < scanBound)
    (fin : ∀ (g : Heap) (tk : Nat), g.SetOf (PySem.strKind prog w) s.heap.objs.size (fun y => (xs.take its.size).any (· == y)) (few xs its.size) → (∀ b o, b < s.heap.objs.size → s.heap.get? b = some o → g.get? b = some o) → Q (.ref s.heap.objs.size) { s with heap := g, toks := tk }) :
    wpAny (model prog w) A (call (.type "set") [.ref l]) Q E s := by
  obtain ⟨mc, mt, k1⟩ := PySem.F.called_set.mro
  have k2 := PySem.F.called_set.made
  have k3 := PySem.F.called_set.sub
  refine wpAny_call (codeAny_of_tree (by
    show wpAny _ _ (callAny (.type "set") _) _ _ _
    refine wpAny_pure ⟨Code.quiet_builtin _ (by decide +kernel), codeAny_builtin PySem.F.entry_type_call (by
      rw [Around.under_plain (weight_type_call_type "set" [.ref l] []) rfl]
      have k4 := PySem.F.called_set.notType
      have k5 := PySem.F.called_set.canCreate
      have k6 := PySem.F.typeCall_set_1 (.ref l)
      repeat any_goals first | assumption | wp_step
      refine codeAny_mono (code_set_new_1 (.ref l) (E := E) (Q₁ := fun v s1 => ∃ led : Bool, v = .ref s.heap.objs.size ∧ s1 = { s with heap := s.heap.push (freshS led) }) fun led => ⟨led, rfl, rfl⟩) fun r s1 q => ?_
      cases r with
      | error e => exact q
      | ok fl =>
        cases fl with
        | next => exact q.elim
        | brk => exact q.elim
        | cont => exact q.elim
        | ret v =>
          obtain ⟨led, rfl, rfl⟩ := q
          have dS : (s.heap.push (freshS led)).get? s.heap.objs.size = some (freshS led) := Heap.get?_push_size _ rfl
          have tS : Shared.TypeIs { s with heap := s.heap.push (freshS led) } (.ref s.heap.objs.size) "set" := ⟨_, dS, rfl⟩
          have k7 := PySem.F.called_set.init.lookup
          have k8 := PySem.F.called_set.init.bind (.ref s.heap.objs.size)
          repeat any_goals first | assumption | wp_step
          refine codeAny_mono (codeAny_call_builtin (R := wants (fun v s2 => v = .none ∧ ∃ g tk, s2 = { s with heap := g, toks := tk } ∧ g.SetOf (PySem.strKind prog w) s.heap.objs.size (fun y => (xs.take its.size).any (· == y)) (few xs its.size) ∧
              ∀ b o, b < s.heap.objs.size → s.heap.get? b = some o → g.get? b = some o) E) PySem.F.called_set.init.plain PySem.F.entry_set_init (check_set_init_1 tS ?_)) fun r2 s2 q2 => ?_
          · obtain ⟨⟨oc, od, dt, sl⟩, ol, cl, nn, dl⟩ := hl
            simp only at cl dl
            subst cl dl
            have ol2 : (s.heap.push (freshS led)).get? l = some { cls := .type "list", dict := od, data := .seq its nn, slots := sl } := Heap.get?_push_of_some _ ol
            have m1 := PySem.F.sub_list_set
            have m2 := PySem.F.sub_list_frozenset
            have m3 : (Value.type "list" == Value.type "dict") = false := by decide
            have ll : (s.heap.push (freshS led)).IsList l its := ⟨_, ol2, rfl, nn, rfl⟩
            unfold Builtin.«set.__init__» noKeywords Builtin.Frozenset.updateFrom
            generalize hPI : pyIter = PI
            wp_walk
            subst hPI
            have ls : l < s.heap.objs.size := Heap.lt_size ol
            have sz : (s.heap.push (freshS led)).objs.size = s.heap.objs.size + 1 := Heap.size_push ..
            have h3 : A.in1.in1.in1.handled = none := by simp [hh]
            have nI : l ≠ (s.heap.push (freshS led)).objs.size := by rw [sz]; exact Nat.ne_of_lt (Nat.lt_succ_of_lt ls)
            have nS : s.heap.objs.size ∉ [(s.heap.push (freshS led)).objs.size, l] := fun m => by
              rcases List.mem_cons.mp m with z | z
              · rw [sz] at z
                exact absurd z (Nat.ne_of_lt (Nat.lt_succ_self _))
              · exact absurd (List.mem_singleton.mp z) (Nat.ne_of_gt ls)
            have ln : xs.length = its.size := by rw [← StrsAre.len_eq hi, Array.length_toList]
            refine wpAny_pyIter_list ll (wpAny_bind (wpAny_runValue (loopT ((Walks.list h3 _ l nI its).toS) s.heap.objs.size nS xs ln (fun i v e => strs_at hi i v (by rw [Array.getElem?_toList]; exact e)) hb (its.size - 0) 0 _ (by omega) (Nat.zero_le _)
              ⟨⟨_, Heap.get?_push_size _ rfl, rfl, rfl⟩, ll.push _⟩ ?_ ?_)))
            · exact SetOf_congr ((PyProof.Rows.setObjOf_fresh (knd := PySem.strKind prog w) led).setOf (Heap.get?_push_of_some _ dS) (by unfold scanBound; omega)) (fun _ => rfl) rfl
            · rintro ⟨g, gn, dr, tk, os⟩ mv hD
              obtain rfl : gn = s.gens := mv.gens
              obtain rfl : dr = s.drawn := mv.drawn
              obtain rfl : os = s.os := mv.os
              show wpAny _ _ _ _ _ _
              refine wpAny_pure (by
                show wpAny _ _ (ret Value.none) _ _ _
                refine wpAny_pure ⟨rfl, g, tk, rfl, hD, fun b o lb e => mv.heap b o (fun m => ?_) (Heap.get?_push_of_some _ (Heap.get?_push_of_some _ e))⟩
                rcases List.mem_cons.mp m with z | z
                · exact absurd z (Nat.ne_of_lt lb)
                · have y := List.mem_singleton.mp z
                  rw [sz] at y
                  exact absurd y (Nat.ne_of_lt (Nat.lt_succ_of_lt lb)))
          · cases r2 with
            | error e => exact q2
            | ok f2 =>
              cases f2 with
              | next => exact q2.elim
              | brk => exact q2.elim
              | cont => exact q2.elim
              | ret v =>
                obtain ⟨rfl, g, tk, rfl, hD, kp⟩ := q2
                repeat any_goals first | assumption | wp_step
                exact fin g _ hD kp)⟩))
end
end OB
namespace OB
open PySem PySem.Spec PyProof.Rows L2
/-! ### lists and tuples alike; len(set(texts)) -/
theorem SqX.or {tp : Bool} {K : PySem.W.Frag} {H : Hp} {p : Addr} {xs : List V} (h : SqX tp K H p xs) : SqL K H p xs ∨ SqT K H p xs := by
  cases tp with
  | true => exact .inr h
  | false => exact .inl h
def mkX (tp : Bool) (xs : List V) : HO := if tp = true then .tup xs else .lst xs
theorem SqX.new {tp : Bool} {K : PySem.W.Frag} {H : Hp} {p : Addr} {xs : List V} : SqX tp K (upd H p (mkX tp xs)) p xs := by
  cases tp with
  | true => exact SqT.of upd_same
  | false => exact SqL.of upd_same
def rIxX (K : PySem.W.Frag) : R2 := fun x y H Q => ∃ tp p xs i v, x = .ref p ∧ y = .int i ∧ SqX tp K H p xs ∧ atI xs i = some v ∧ Q v H
theorem ix_X {X : Cx} : IxR X (rIxX X.K) := by
  intro value slice pins s σ H x y v u Q I rx ry h hs
  obtain ⟨tp, p, xs, i, z, rfl, rfl, hq, he, q⟩ := h
  cases tp with
  | true => exact ix_tup value slice pins s σ H _ _ v u Q I rx ry ⟨p, xs, i, z, rfl, rfl, hq, he, q⟩ hs
  | false => exact ix_list value slice pins s σ H _ _ v u Q I rx ry ⟨p, xs, i, z, rfl, rfl, hq, he, q⟩ hs
def rSlQ (K : PySem.W.Frag) : V → Option Int → Option Int → Hp → VK → Prop := fun x lo hi H Q => ∃ tp a xs, x = .ref a ∧ SqX tp K H a xs ∧ ¬ (HT.sIx xs.length 0 lo = 0 ∧ HT.sIx xs.length xs.length hi = xs.length) ∧ ∀ p, H p = none → Q (.ref p) (upd H p (mkX tp (cutV xs lo hi)))
theorem sl_X {X : Cx} : SlR X (rSlQ X.K) := by
  intro pins s σ H x v vl vu lo hi sl Q I rx hs pl pu h
  obtain ⟨tp, a, xs, rfl, hx, nw, q⟩ := h
  cases tp with
  | true => exact sl_tup pins s σ H _ v vl vu lo hi sl Q I rx hs pl pu ⟨a, xs, rfl, hx, nw, q⟩
  | false => exact sl_list pins s σ H _ v vl vu lo hi sl Q I rx hs pl pu ⟨a, xs, rfl, hx, q⟩
theorem truX {tp : Bool} {K : PySem.W.Frag} {H : Hp} {p : Addr} {xs : List V} (h : SqX tp K H p xs) : TruV K (.ref p) H (!xs.isEmpty) := by
  cases tp with
  | true => exact .inr (.inl ⟨xs, h, rfl⟩)
  | false => exact .inl ⟨xs, h, rfl⟩
theorem any_sqx {K : PySem.W.Frag} {H : Hp} {v : V} {k : Kd} (h : Any K H v k) (e : fSeq v k = true) : ∃ tp p xs, v = .ref p ∧ H p = some (mkX tp xs) ∧ SqX tp K H p xs := by
  cases h with
  | lst q => exact ⟨false, _, _, rfl, q, SqL.of q⟩
  | tup q => exact ⟨true, _, _, rfl, q, SqT.of q⟩
  | _ => cases e
def tLenT (K : PySem.W.Frag) (ta : TE) : TE := fun σ H Q => ta σ H fun x H1 => ∃ l, ∃ xs : List Str, x = .ref l ∧ SqL K H1 l (xs.map V.str) ∧ xs.length ≤ 1000 ∧ Q (.int (few xs xs.length : Nat)) H1
section
variable {X : Cx}
theorem pe_lenT {a : Expr} {ta : TE} {p p2 q pos : Pos} (hc : X.calm = true) (hg : Gl X "len") (hm : X.mg "len" = none) (hg2 : Gl X "set") (hm2 : X.mg "set" = none) (ha : PE X a ta)
    (na : starEach [a] X.env = (false, eval a X.env) :: starEach [] X.env := by rfl) : PE X (.Call (.Name "len" p) [.Call (.Name "set" p2) [a] [] q] [] pos) (tLenT X.K ta) := by
  refine ⟨fun pins s σ H Q I h => Call_ (ld_blt I hg hm boot_len (PyProof.Rows.callWith_builtin1 (PyProof.Rows.args_cons (Call_ (ld_blt I hg2 hm2 boot_set (PyProof.Rows.callWith_type1 (PyProof.Rows.args_cons
    (thn (ha.run pins s σ H _ I h) fun v s1 ⟨x, H1, I1, r1, q1⟩ => PyProof.Rows.args_nil ?_) na) na rfl))) rfl) rfl rfl))⟩
  obtain ⟨l, xs, rfl, hq, h1, q1⟩ := q1
  cases r1
  obtain ⟨its, r, pl, hz⟩ := I1.list hq
  have sz : its.toArray.size = xs.length := by rw [List.size_toArray, ← r.length, List.length_map]
  refine call_setT (I1.ok.hd hc) pl.isList (by simpa using strsAre_of r) (by rw [sz]; unfold scanBound; omega) fun g tk hS hk => PyProof.Rows.args_nil ?_
  rw [sz] at hS
  obtain ⟨o, es, ep, t, ho, hex, hd, _, _, _, hf, hn⟩ := hS
  have I2 : Inv X pins σ H1 { s1 with heap := g, toks := tk } := I1.kept fun b o e => hk b o (Heap.lt_size e) e
  have small := few_le xs xs.length
  exact call_len_set ho hex hd hf (by rw [hn]; unfold scanBound at *; omega) ⟨.int (few xs xs.length : Nat), H1, I2.tok _, ⟨_, by rw [hn]⟩, q1⟩
end
/-! ### when it is as many -/
theorem few_all {xs : List Str} : ∀ i, i ≤ xs.length → (few xs i = i ↔ (xs.take i).Nodup)
  | 0, _ => by simp [few]
  | i + 1, h => by
    have ih := few_all (xs := xs) i (by omega)
    have le := few_le xs i
    rw [take_more (by omega), List.nodup_append]
    unfold few
    by_cases m : (xs.take i).any (· == xs.getD i Str.empty) = true
    · rw [if_pos m]
      constructor
      · intro z
        omega
      · rintro ⟨_, _, z⟩
        obtain ⟨y, hy, e⟩ := List.any_eq_true.mp m
        exact absurd (eq_of_beq e) (z y hy _ (List.mem_singleton.mpr rfl))
    · rw [if_neg m]
      constructor
      · intro z
        refine ⟨ih.mp (by omega), by simp, fun a ha b hb e => m (List.any_eq_true.mpr ⟨a, ha, ?_⟩)⟩
        rw [List.mem_singleton.mp hb] at e
        exact beq_iff_eq.mpr e
      · intro z
        have y := ih.mpr z.1
        omega
theorem few_nodup (xs : List Str) : few xs xs.length = xs.length ↔ xs.Nodup := by
  have z := few_all (xs := xs) xs.length (Nat.le_refl _)
  rw [List.take_length] at z
  exact z
end OB
namespace OB
open PySem PySem.Spec PyProof.Rows
open SS (strs_at)
section
variable {prog : Program} {w : World} {A : Around} {E : Value → Shared → Prop} {s : Shared}
/-- set(a tuple of texts) -/
theorem call_setTT {l : Addr} {its : Array Value} {xs : List Str} {Q : Value → Shared → Prop} (hh : A.handled = none) (hl : s.heap.IsTuple l its) (hi : StrsAre its.toList xs) (hb : its.size + 1 < scanBound)
    (fin : ∀ (g : Heap) (tk : Nat), g.SetOf (PySem.strKind prog w) s.heap.objs.size (fun y => (xs.take its.size).any (· == y)) (few xs its.size) → (∀ b o, b < s.heap.objs.size → s.heap.get? b = some o → g.get? b = some o) → Q (.ref s.heap.objs.size) { s with heap := g, toks := tk }) :
    wpAny (model prog w) A (call (.type "set") [.ref l]) Q E s := by
  obtain ⟨mc, mt, k1⟩ := PySem.F.called_set.mro
  have k2 := PySem.F.called_set.made
  have k3 := PySem.F.called_set.sub
  refine wpAny_call (codeAny_of_tree (by
    show wpAny _ _ (callAny (.type "set") _) _ _ _
    refine wpAny_pure ⟨Code.quiet_builtin _ (by decide +kernel), codeAny_builtin PySem.F.entry_type_call (by
      rw [Around.under_plain (weight_type_call_type "set" [.ref l] []) rfl]
      have k4 := PySem.F.called_set.notType
      have k5 := PySem.F.called_set.canCreate
      have k6 := PySem.F.typeCall_set_1 (.ref l)
      repeat any_goals first | assumption | wp_step
      refine codeAny_mono (code_set_new_1 (.ref l) (E := E) (Q₁ := fun v s1 => ∃ led : Bool, v = .ref s.heap.objs.size ∧ s1 = { s with heap := s.heap.push (freshS led) }) fun led => ⟨led, rfl, rfl⟩) fun r s1 q => ?_
      cases r with
      | error e => exact q
      | ok fl =>
        cases fl with
        | next => exact q.elim
        | brk => exact q.elim
        | cont => exact q.elim
        | ret v =>
          obtain ⟨led, rfl, rfl⟩ := q
          have dS : (s.heap.push (freshS led)).get? s.heap.objs.size = some (freshS led) := Heap.get?_push_size _ rfl
          have tS : Shared.TypeIs { s with heap := s.heap.push (freshS led) } (.ref s.heap.objs.size) "set" := ⟨_, dS, rfl⟩
          have k7 := PySem.F.called_set.init.lookup
          have k8 := PySem.F.called_set.init.bind (.ref s.heap.objs.size)
          repeat any_goals first | assumption | wp_step
          refine codeAny_mono (codeAny_call_builtin (R := wants (fun v s2 => v = .none ∧ ∃ g tk, s2 = { s with heap := g, toks := tk } ∧ g.SetOf (PySem.strKind prog w) s.heap.objs.size (fun y => (xs.take its.size).any (· == y)) (few xs its.size) ∧
              ∀ b o, b < s.heap.objs.size → s.heap.get? b = some o → g.get? b = some o) E) PySem.F.called_set.init.plain PySem.F.entry_set_init (check_set_init_1 tS ?_)) fun r2 s2 q2 => ?_
          · obtain ⟨⟨oc, od, dt, sl⟩, ol, cl, nn, dl⟩ := hl
            simp only at cl dl
            subst cl dl
            have ol2 : (s.heap.push (freshS led)).get? l = some { cls := .type "tuple", dict := od, data := .seq its nn, slots := sl } := Heap.get?_push_of_some _ ol
            have m1 := PySem.F.sub_tuple_set
            have m2 := PySem.F.sub_tuple_frozenset
            have m3 : (Value.type "tuple" == Value.type "dict") = false := by decide
            have ll : (s.heap.push (freshS led)).IsTuple l its := ⟨_, ol2, rfl, nn, rfl⟩
            unfold Builtin.«set.__init__» noKeywords Builtin.Frozenset.updateFrom
            generalize hPI : pyIter = PI
            wp_walk
            subst hPI
            have ls : l < s.heap.objs.size := Heap.lt_size ol
            have sz : (s.heap.push (freshS led)).objs.size = s.heap.objs.size + 1 := Heap.size_push ..
            have h3 : A.in1.in1.in1.handled = none := by simp [hh]
            have nI : l ≠ (s.heap.push (freshS led)).objs.size := by rw [sz]; exact Nat.ne_of_lt (Nat.lt_succ_of_lt ls)
            have nS : s.heap.objs.size ∉ [(s.heap.push (freshS led)).objs.size, l] := fun m => by
              rcases List.mem_cons.mp m with z | z
              · rw [sz] at z
                exact absurd z (Nat.ne_of_lt (Nat.lt_succ_self _))
              · exact absurd (List.mem_singleton.mp z) (Nat.ne_of_gt ls)
            have ln : xs.length = its.size := by rw [← StrsAre.len_eq hi, Array.length_toList]
            refine wpAny_pyIter_tuple ll (wpAny_bind (wpAny_runValue (loopT ((Walks.tuple h3 _ l nI its).toS) s.heap.objs.size nS xs ln (fun i v e => strs_at hi i v (by rw [Array.getElem?_toList]; exact e)) hb (its.size - 0) 0 _ (by omega) (Nat.zero_le _)
              ⟨⟨_, Heap.get?_push_size _ rfl, rfl, rfl⟩, ll.push _⟩ ?_ ?_)))
            · exact SetOf_congr ((PyProof.Rows.setObjOf_fresh (knd := PySem.strKind prog w) led).setOf (Heap.get?_push_of_some _ dS) (by unfold scanBound; omega)) (fun _ => rfl) rfl
            · rintro ⟨g, gn, dr, tk, os⟩ mv hD
              obtain rfl : gn = s.gens := mv.gens
              obtain rfl : dr = s.drawn := mv.drawn
              obtain rfl : os = s.os := mv.os
              show wpAny _ _ _ _ _ _
              refine wpAny_pure (by
                show wpAny _ _ (ret Value.none) _ _ _
                refine wpAny_pure ⟨rfl, g, tk, rfl, hD, fun b o lb e => mv.heap b o (fun m => ?_) (Heap.get?_push_of_some _ (Heap.get?_push_of_some _ e))⟩
                rcases List.mem_cons.mp m with z | z
                · exact absurd z (Nat.ne_of_lt lb)
                · have y := List.mem_singleton.mp z
                  rw [sz] at y
                  exact absurd y (Nat.ne_of_lt (Nat.lt_succ_of_lt lb)))
          · cases r2 with
            | error e => exact q2
            | ok f2 =>
              cases f2 with
              | next => exact q2.elim
              | brk => exact q2.elim
              | cont => exact q2.elim
              | ret v =>
                obtain ⟨rfl, g, tk, rfl, hD, kp⟩ := q2
                repeat any_goals first | assumption | wp_step
                exact fin g _ hD kp)⟩))
end
end OB
namespace OB
open PySem PySem.Spec PyProof.Rows L2
/-! ### lists and tuples alike; len(set(texts)) -/
/-- len(set(..)) of a list or a tuple of texts -/
def tLenX (K : PySem.W.Frag) (ta : TE) : TE := fun σ H Q => ta σ H fun x H1 => ∃ tp l, ∃ xs : List Str, x = .ref l ∧ SqX tp K H1 l (xs.map V.str) ∧ xs.length ≤ 1000 ∧ Q (.int (few xs xs.length : Nat)) H1
section
variable {X : Cx}
theorem pe_lenX {a : Expr} {ta : TE} {p p2 q pos : Pos} (hc : X.calm = true) (hg : Gl X "len") (hm : X.mg "len" = none) (hg2 : Gl X "set") (hm2 : X.mg "set" = none) (ha : PE X a ta)
    (na : starEach [a] X.env = (false, eval a X.env) :: starEach [] X.env := by rfl) : PE X (.Call (.Name "len" p) [.Call (.Name "set" p2) [a] [] q] [] pos) (tLenX X.K ta) := by
  refine ⟨fun pins s σ H Q I h => Call_ (ld_blt I hg hm boot_len (PyProof.Rows.callWith_builtin1 (PyProof.Rows.args_cons (Call_ (ld_blt I hg2 hm2 boot_set (PyProof.Rows.callWith_type1 (PyProof.Rows.args_cons
    (thn (ha.run pins s σ H _ I h) fun v s1 ⟨x, H1, I1, r1, q1⟩ => PyProof.Rows.args_nil ?_) na) na rfl))) rfl) rfl rfl))⟩
  obtain ⟨tp, l, xs, rfl, hq, h1, q1⟩ := q1
  cases r1
  have fin : ∀ (n : Nat), n = xs.length → ∀ (g : Heap) (tk : Nat), g.SetOf (PySem.strKind X.prog X.w) s1.heap.objs.size (fun y => (xs.take n).any (· == y)) (few xs n) → (∀ b o, b < s1.heap.objs.size → s1.heap.get? b = some o → g.get? b = some o) →
      wpAny (model X.prog X.w) X.A (call (.builtin "len") [.ref s1.heap.objs.size]) (EP X pins σ Q) X.xe { s1 with heap := g, toks := tk } := fun n en g tk hS hk => by
    rw [en] at hS
    obtain ⟨o, es, ep, t, ho, hex, hd, _, _, _, hf, hn⟩ := hS
    have I2 : Inv X pins σ H1 { s1 with heap := g, toks := tk } := I1.kept fun b o e => hk b o (Heap.lt_size e) e
    have small := few_le xs xs.length
    exact call_len_set ho hex hd hf (by rw [hn]; unfold scanBound at *; omega) ⟨.int (few xs xs.length : Nat), H1, I2.tok _, ⟨_, by rw [hn]⟩, q1⟩
  cases tp with
  | false =>
    obtain ⟨its, r, pl, hz⟩ := I1.list hq
    have sz : its.toArray.size = xs.length := by rw [List.size_toArray, ← r.length, List.length_map]
    exact call_setT (I1.ok.hd hc) pl.isList (by simpa using strsAre_of r) (by rw [sz]; unfold scanBound; omega) fun g tk hS hk => PyProof.Rows.args_nil (fin _ sz g tk hS hk)
  | true =>
    obtain ⟨its, r, pl, hz⟩ := I1.tuple hq
    have sz : its.toArray.size = xs.length := by rw [List.size_toArray, ← r.length, List.length_map]
    exact call_setTT (I1.ok.hd hc) pl (by simpa using strsAre_of r) (by rw [sz]; unfold scanBound; omega) fun g tk hS hk => PyProof.Rows.args_nil (fin _ sz g tk hS hk)
end
end OB
namespace OB
open PySem PySem.Spec PyProof.Rows L2
def ItX (tp : Bool) (K : PySem.W.Frag) (a : Addr) : It := match tp with
  | true => Itt K a
  | false => Itl K a
def iX (K : PySem.W.Frag) (tl : TE) : TI := fun σ H R => tl σ H fun x H1 => ∃ tp a xs, x = .ref a ∧ SqX tp K H1 a xs ∧ R (ItX tp K a) H1
theorem pi_X {tg l : Expr} {tl : TE} (hl : PE X l tl) : PI X tg l (iX X.K tl) := by
  refine ⟨fun pins s σ H R I h => thn (hl.run pins s σ H _ I h) fun v s1 ⟨x, H1, I1, r1, q1⟩ => ?_⟩
  obtain ⟨tp, a, xs, rfl, hq, q⟩ := q1
  cases r1
  cases tp with
  | true =>
    obtain ⟨its, rv, p, hz⟩ := I1.tuple hq
    exact wpAny_pyIter_tuple (show s1.heap.IsTuple a its.toArray from p) (pi_one (tk := s1.toks) I1 _ (turn_tuple a _) ⟨_, Heap.get?_push_size _ rfl, rfl, rfl⟩ q)
  | false =>
    obtain ⟨its, rv, p, hz⟩ := I1.list hq
    exact wpAny_pyIter_list p.isList (pi_one (tk := s1.toks) I1 _ (turn_list a _) ⟨_, Heap.get?_push_size _ rfl, rfl, rfl⟩ q)
theorem SqX.at {tp : Bool} {K : PySem.W.Frag} {H : Hp} {p : Addr} {xs : List V} (h : H p = some (mkX tp xs)) : SqX tp K H p xs := by
  cases tp with
  | true => exact SqT.of h
  | false => exact SqL.of h
theorem walk_X {tp : Bool} {K : PySem.W.Frag} {a : Addr} {xs : List V} : Walk (ItX tp K a) xs.length (fun H => SqX tp K H a xs) (YAt xs) := by
  cases tp with
  | false => exact walk_list
  | true => exact walk_tup
abbrev sUnl : Stmt := top 9
/-- any object that may tell a list -/
def ArgW (K : PySem.W.Frag) (H : Hp) (v : V) (r : Option (List V)) : Prop := match r with
  | none => ∃ k, Any K H v k ∧ fSeq v k = false
  | some xs => ∃ (a : Addr) (tp : Bool), v = .ref a ∧ H a = some (mkX tp xs) ∧ (∀ x ∈ xs, ∃ k, Any K H x k) ∧ xs.length < 1000
theorem ArgW.same {K : PySem.W.Frag} {H H' : Hp} {v : V} {r : Option (List V)} (h : ArgW K H v r) (e : Same H H') : ArgW K H' v r := by
  cases r with
  | none =>
    obtain ⟨k, h1, h2⟩ := h
    exact ⟨k, h1.same e, h2⟩
  | some xs =>
    obtain ⟨a, tp, h1, h2, h3, h4⟩ := h
    exact ⟨a, tp, h1, e _ _ h2, fun x m => (h3 x m).imp fun k z => z.same e, h4⟩
def strOf (v : V) : Str := match v with
  | .str x => x
  | _ => Str.empty
/-- the unlike names that are told -/
def unlOf (ns : List Str) (r : Option (List V)) : Option (List Str) := match r with
  | none => none
  | some xs => if xs.all (wordIn ns) = true ∧ (xs.map strOf).Nodup then some (xs.map strOf) else none
theorem words_str {ns : List Str} : ∀ {xs : List V}, xs.all (wordIn ns) = true → (xs.map strOf).map V.str = xs
  | [], _ => rfl
  | x :: xs, h => by
    rw [List.all_cons, Bool.and_eq_true] at h
    rw [List.map_cons, List.map_cons, words_str h.2]
    cases x with
    | str s => rfl
    | _ => cases h.1
def spUnl (K : PySem.W.Frag) : Sp := fun vs H Q _ => ∃ (a : Addr) (ns : List Str) (v : V) (r : Option (List V)), vs = [.ref a, v] ∧ SqL K H a (ns.map V.str) ∧ ArgW K H v r ∧ (unlOf ns r = none → ∀ H', Same H H' → Q .non H') ∧ ∀ ss, unlOf ns r = some ss → ∀ H' T, Same H H' → H' T = some (.tup (ss.map V.str)) → Q (.ref T) H'
section
variable {P : Program} {w : World} {K : PySem.W.Frag} {mg : Str → Option Value} {base : Heap}
theorem scUnl : FnScope ["names", "thing", "part"] ["names", "thing"] (defScope sUnl) := ⟨rfl, rfl, rfl, by decide +kernel, rfl, by decide +kernel, by decide +kernel⟩
theorem ok_unl {f fL fW : Addr} {fd fdL fdW : FuncData} (F : Fun K "unlike_addresses" "unlike_addresses" sUnl f fd) (T : TxtC mg) (al : mg "all" = none) (le : mg "len" = none) (se : mg "set" = none)
    (GL : FnOk P w K mg base CX0 1 fL fdL ["thing"] (spAsk K fSeq)) (gL : mg "is_list" = some (.ref fL)) (kL : PySem.W.keepIn K (.ref fL) = true) (bL : Binds K fdL ["thing"] [])
    (GW : FnOk P w K mg base CX0 1 fW fdW ["words", "thing"] (spWord K)) (gW : mg "is_word_of" = some (.ref fW)) (kW : PySem.W.keepIn K (.ref fW) = true) (bW : Binds K fdW ["words", "thing"] []) : FnOk P w K mg base CX0 2 f fd ["names", "thing"] (spUnl K) := by
  refine F.ok scUnl (fun vs H Q E h => ?_) (fun cdv A outer s H vs Q E hr h => ?_)
  · obtain ⟨a, ns, v, r, rfl, _⟩ := h
    rfl
  · obtain ⟨a, ns, v, r, rfl, hs, ha, q1, q2⟩ := h
    have nd := scUnl.nd
    refine ⟨_, pss_cons (ps_if (PW.pt (pw_or (pt_not (pt_val (pe_call GL hr (by rfl) gL kL bL .nil pass0 (pa_cons (pv 1) pa_nil)))) (pw_or1 (pt_not (pt_val (pe_callB (cr_all rfl) (by rfl) al (by decide +kernel) (pa_cons (pe_lc (own := [("part", 2)]) (g := gName 2) (tt := tYes) rfl nd (pi_X (pv 1)) (blkOk_by (N := ["names", "thing", "part"]) (sc := defScope sUnl) (by decide +kernel))
          (fun _ _ _ _ _ => pg_name (i := 2) nd rfl (Or.inl rfl)) (fun _ _ _ _ _ => pts_nil) (fun _ _ _ _ _ => pe_call GW hr (by rfl) gW kW bW .nil pass0 (pa_cons (pv 0) (pa_cons (pv 2) pa_nil)))) pa_nil))))))) (pss_one (ps_ret pe_non)) pss_nil)
      (pss_cons (ps_if (pt_cmpR op_lt (pe_lenX rfl (by rfl) le (by rfl) se (pv 1)) (pe_callB call_len_seq (by rfl) le PySem.boot_len (pa_cons (pv 1) pa_nil)) (nomark _)) (pss_one (ps_ret pe_non)) pss_nil)
      (pss_one (ps_ret (pe_callTy call_tuple_of (by rfl) T.tuple bTuple (pa_cons (pv 1) pa_nil))))), ?_⟩
    cases r with
    | none =>
      obtain ⟨k, h, hf⟩ := ha
      refine ⟨_, rfl, v, k, rfl, h, fun H1 e1 => ⟨_, rfl, ?_⟩⟩
      rw [hf]
      exact iteT (q1 rfl _ e1)
    | some xs =>
      obtain ⟨b, tp, rfl, hb, ax, hl⟩ := ha
      obtain ⟨k, av, hf⟩ : ∃ k, Any K H (.ref b) k ∧ fSeq (.ref b) k = true := by
        cases tp with
        | true => exact ⟨.tup, .tup hb, rfl⟩
        | false => exact ⟨.lst, .lst hb, rfl⟩
      refine ⟨_, rfl, .ref b, k, rfl, av, fun H1 e1 => ⟨_, rfl, ?_⟩⟩
      rw [hf]
      have sx : SqX tp K H1 b xs := SqX.at (e1 _ _ hb)
      have hs1 : SqL K H1 a (ns.map V.str) := Same.seq e1 hs
      refine iteF ⟨_, rfl, tp, b, xs, rfl, sx, fun D nD => ?_⟩
      have lm : ((xs.map (wordIn ns)).map V.bl).length = xs.length := by simp
      have nA : ∀ {i : Nat} {G : Hp}, AccP D H1 (mapTo ((xs.map (wordIn ns)).map V.bl)) i G → Same H1 G := fun z => acc_same z (Same.refl H1) nD
      refine lc_it walk_X (AccP D H1 (mapTo ((xs.map (wordIn ns)).map V.bl))) (acc_start rfl) (fun i G _ z => SqX.same sx (nA z)) (fun i x G G' hi z y => ?_) (fun G z => ?_)
      · obtain ⟨rfl, hx⟩ := y
        obtain ⟨kx, bx⟩ := ax x (List.mem_of_getElem? hx)
        refine ⟨rfl, ?_⟩
        dsimp only [tYes]
        rw [if_pos rfl]
        refine ⟨_, rfl, _, rfl, a, ns, x, kx, rfl, Same.seq (nA z) hs1, (bx.same e1).same (nA z), fun G2 e2 => ?_⟩
        exact acc_in z e2 (mapTo_len (by rw [lm, sizeLine_eq]; omega)) (mapTo_succ (by rw [List.getElem?_map, List.getElem?_map, hx] <;> rfl))
      have e2 := nA z
      rw [← lm] at z
      have gD : G D = some (.lst ((xs.map (wordIn ns)).map V.bl)) := by rw [z.2, mapTo_all]
      clear z
      have sxG := SqX.same sx e2
      have hbG := e2 _ _ (e1 _ _ hb)
      have e12 := e1.trans e2
      refine ⟨D, xs.map (wordIn ns), rfl, SqL.of gD, _, rfl, ?_⟩
      have al2 : (xs.map (wordIn ns)).all id = xs.all (wordIn ns) := by rw [List.all_map] <;> rfl
      rw [al2]
      cases hall : xs.all (wordIn ns) with
      | false =>
        have un : unlOf ns (some xs) = none := if_neg fun z => by rw [hall] at z; cases z.1
        exact iteT (q1 un _ e12)
      | true =>
        have ex := words_str hall
        obtain ⟨ss, hss⟩ : ∃ ss, ss = xs.map strOf := ⟨_, rfl⟩
        have ls : ss.length = xs.length := by rw [hss, List.length_map]
        rw [← hss] at ex
        refine iteF ⟨_, rfl, tp, b, ss, rfl, by rw [ex]; exact sxG, by omega, _, rfl, b, xs, rfl, sxG.or, _, _, rfl, rfl, _, rfl, ?_⟩
        refine ite2 (fun h => ?_) (fun h => ?_)
        · have h := of_decide_eq_true h
          have un : unlOf ns (some xs) = none := if_neg fun z => by
            have := (few_nodup ss).mpr (by rw [hss]; exact z.2)
            omega
          exact q1 un _ e12
        · have h : ¬ ((few ss ss.length : Nat) : Int) < ((xs.length : Nat) : Int) := fun y => h (decide_eq_true y)
          have nd2 : ss.Nodup := (few_nodup ss).mp (by
            have := few_le ss ss.length
            omega)
          have un : unlOf ns (some xs) = some ss := by
            rw [hss]
            exact if_pos ⟨hall, by rw [← hss]; exact nd2⟩
          refine ⟨_, rfl, b, xs, rfl, ?_⟩
          cases tp with
          | false => exact .inl ⟨sxG, fun l nl => q2 ss un _ l (e12.trans (Same.new nl)) (by rw [upd_same, ex])⟩
          | true => exact .inr ⟨sxG, q2 ss un _ b e12 (by rw [ex]; exact hbG)⟩
end
end OB
namespace OB
open PySem PySem.Spec PyProof.Rows L2
abbrev sOrd : Stmt := top 24
abbrev sCkLand : Stmt := top 20
abbrev sCkAdr : Stmt := top 30
theorem op_inK {X : Cx} {K : PySem.W.Frag} (h : X.K = K) : OpR X (compareOp .In) (rIn K false) := by
  subst h
  exact op_in_seq
/-- some addresses in the order of the names -/
def ordL (ns as : List Str) : List Str := ns.filter fun x => decide (x ∈ as)
theorem ord_step {ns as : List Str} {i : Nat} {x : Str} (h : ns[i]? = some x) : ordL (ns.take (i + 1)) as = ordL (ns.take i) as ++ (if x ∈ as then [x] else []) := by
  unfold ordL
  rw [List.take_add_one, h, List.filter_append]
  congr 1
  by_cases y : x ∈ as
  · rw [if_pos y]
    simp [y]
  · rw [if_neg y]
    simp [y]
def spOrd (K : PySem.W.Frag) : Sp := fun vs H Q _ => ∃ (a b : Addr) (tp : Bool) (ns as : List Str), vs = [.ref a, .ref b] ∧ SqL K H a (ns.map V.str) ∧ SqX tp K H b (as.map V.str) ∧ ns.length ≤ 1000 ∧ ∀ H' T, Same H H' → H T = none → H' T = some (.tup ((ordL ns as).map V.str)) → Q (.ref T) H'
section
variable {P : Program} {w : World} {K : PySem.W.Frag} {mg : Str → Option Value} {base : Heap}
theorem scOrd : FnScope ["names", "addresses", "name"] ["names", "addresses"] (defScope sOrd) := ⟨rfl, rfl, rfl, by decide +kernel, rfl, by decide +kernel, by decide +kernel⟩
theorem ok_ordr {f : Addr} {fd : FuncData} (F : Fun K "in_order" "in_order" sOrd f fd) (T : TxtC mg) : FnOk P w K mg base CX0 1 f fd ["names", "addresses"] (spOrd K) := by
  refine F.ok scOrd (fun vs H Q E h => ?_) (fun cdv A outer s H vs Q E hr h => ?_)
  · obtain ⟨a, b, tp, ns, as, rfl, _⟩ := h
    rfl
  · obtain ⟨a, b, tp, ns, as, rfl, hs, hb, hl, q⟩ := h
    have nd := scOrd.nd
    refine ⟨_, pss_one (ps_ret (pe_callTy call_tuple_of (by rfl) T.tuple bTuple (pa_cons (pe_lc (own := [("name", 2)]) (g := gName 2) (tt := tTest (tOp (rIn K false) (tVar 2) (tVar 1))) rfl nd (pi_list (pv 0)) (blkOk_by (N := ["names", "addresses", "name"]) (sc := defScope sOrd) (by decide +kernel))
          (fun _ _ _ _ _ => pg_name (i := 2) nd rfl (Or.inl rfl)) (fun _ _ _ _ _ => pts_one (pt_cmpR (op_inK (K := K) rfl) (pv 2) (pv 1) (by rfl))) (fun _ _ _ _ _ => pv 2)) pa_nil))), ?_⟩
    refine ⟨_, rfl, a, rfl, ⟨_, hs⟩, fun D nD => ?_⟩
    refine lc_it (walk_list (xs := ns.map V.str)) (AccP D H (fun i => (ordL (ns.take i) as).map V.str)) (acc_start rfl) (fun i G _ z => Same.seq (acc_same z (Same.refl H) nD) hs) (fun i x G G' hi z y => ?_) (fun G z => ?_)
    · obtain ⟨rfl, hx⟩ := y
      rw [List.getElem?_map] at hx
      obtain ⟨s, hs2, rfl⟩ := Option.map_eq_some_iff.mp hx
      have es := acc_same z (Same.refl H) nD
      have step := ord_step (as := as) hs2
      have ol : ((ordL (ns.take i) as).map V.str).length < sizeLine := by
        have h1 : (ordL (ns.take i) as).length ≤ (ns.take i).length := List.length_filter_le _ _
        rw [List.length_take] at h1
        rw [List.length_map, sizeLine_eq]
        omega
      refine ⟨rfl, _, rfl, _, rfl, b, _, rfl, (SqX.same hb es).or, rfl, flat_txt as, ?_⟩
      have ei : inV (.str s) (as.map V.str) = decide (s ∈ as) := inV_txt s as
      refine ⟨_, rfl, ?_⟩
      show (if inV (.str s) (as.map V.str) = true then _ else _)
      rw [ei]
      refine ite2 (fun h => ?_) (fun h => ?_)
      · rw [if_pos (of_decide_eq_true h)] at step
        exact ⟨_, rfl, acc_in z (Same.refl _) ol (by show (ordL _ as).map V.str = _; rw [step, List.map_append] <;> rfl)⟩
      · rw [if_neg (fun y => h (decide_eq_true y)), List.append_nil] at step
        exact acc_out z (Same.refl _) (by show (ordL _ as).map V.str = _; rw [step])
    · have gD : G D = some (.lst ((ordL ns as).map V.str)) := by
        have this : G D = some (.lst ((ordL (ns.take (ns.map V.str).length) as).map V.str)) := z.2
        rw [List.length_map, List.take_length] at this
        exact this
      have e2 : Same H G := acc_same z (Same.refl H) nD
      exact ⟨D, _, rfl, .inl ⟨SqL.of gD, fun l nl => q _ l (e2.trans (Same.new nl)) (e2.free nl) upd_same⟩⟩
end
end OB
/-! ### books that are followed: `sc x` lists where the entry of x leads, nothing where x has none -/
namespace BK
variable {α : Type} [DecidableEq α] {sc : α → List α}
/-- one comes from x by y -/
inductive Rch (sc : α → List α) (x : α) : α → Prop where
  | refl : Rch sc x x
  | step {y z : α} : Rch sc x y → z ∈ sc y → Rch sc x z
theorem Rch.trans {x y z : α} (a : Rch sc x y) (b : Rch sc y z) : Rch sc x z := by
  induction b with
  | refl => exact a
  | step _ h ih => exact .step ih h
theorem Rch.congr {sd : α → List α} (e : ∀ x y, y ∈ sc x ↔ y ∈ sd x) {x y : α} (h : Rch sc x y) : Rch sd x y := by
  induction h with
  | refl => exact .refl
  | step _ h ih => exact .step ih ((e _ _).mp h)
/-- the list of who is met, as far as the first i of them have been followed -/
structure MetI (sc : α → List α) (a : α) (met : List α) (i : Nat) : Prop where
  first : met[0]? = some a
  nd : met.Nodup
  rch : ∀ x ∈ met, Rch sc a x
  done : ∀ j x, j < i → met[j]? = some x → ∀ y ∈ sc x, y ∈ met
  le : i ≤ met.length
theorem MetI.start {a : α} : MetI sc a [a] 0 := ⟨rfl, by simp, fun x m => by rw [List.mem_singleton.mp m]; exact .refl, fun j x h => absurd h (Nat.not_lt_zero j), Nat.zero_le _⟩
theorem MetI.next {a x : α} {met : List α} {i : Nat} (h : MetI sc a met i) (hx : met[i]? = some x) (nd : (sc x).Nodup) : MetI sc a (met ++ (sc x).filter fun y => !decide (y ∈ met)) (i + 1) := by
  have li : i < met.length := (List.getElem?_eq_some_iff.mp hx).1
  have xm : x ∈ met := List.mem_of_getElem? hx
  refine ⟨?_, ?_, ?_, ?_, ?_⟩
  · rw [List.getElem?_append_left (by omega)]
    exact h.first
  · rw [List.nodup_append]
    refine ⟨h.nd, nd.filter _, fun u mu v mv e => ?_⟩
    have := (List.mem_filter.mp mv).2
    rw [← e] at this
    simp [mu] at this
  · intro y my
    rcases List.mem_append.mp my with m | m
    · exact h.rch y m
    · exact .step (h.rch x xm) (List.mem_filter.mp m).1
  · intro j u hj hu y my
    rw [List.getElem?_append_left (by omega)] at hu
    by_cases z : j = i
    · subst z
      rw [hx] at hu
      obtain rfl := Option.some.inj hu
      by_cases w : y ∈ met
      · exact List.mem_append.mpr (.inl w)
      · exact List.mem_append.mpr (.inr (List.mem_filter.mpr ⟨my, by simp [w]⟩))
    · exact List.mem_append.mpr (.inl (h.done j u (by omega) hu y my))
  · rw [List.length_append]
    omega
/-- all that are met -/
structure MetA (sc : α → List α) (a : α) (met : List α) : Prop where
  first : met[0]? = some a
  nd : met.Nodup
  iff : ∀ x, x ∈ met ↔ Rch sc a x
theorem MetI.all {a : α} {met : List α} (h : MetI sc a met met.length) : MetA sc a met :=
  ⟨h.first, h.nd, fun x => ⟨h.rch x, fun r => by
    induction r with
    | refl => exact List.mem_of_getElem? h.first
    | @step y z _ hz ih =>
      obtain ⟨j, hj, e⟩ := List.mem_iff_getElem.mp ih
      exact h.done j y hj (by rw [List.getElem?_eq_getElem hj, e]) z hz⟩⟩
theorem MetA.shut {a x y : α} {met : List α} (h : MetA sc a met) (m : x ∈ met) (s : y ∈ sc x) : y ∈ met := (h.iff y).mpr (.step ((h.iff x).mp m) s)
/-- whether one goes round: the law's own look -/
def Round (sc : α → List α) (a : α) : Prop := ∃ x y, Rch sc a x ∧ y ∈ sc x ∧ Rch sc y x
theorem round_congr {sd : α → List α} (e : ∀ x y, y ∈ sc x ↔ y ∈ sd x) {a : α} : Round sc a ↔ Round sd a := by
  constructor
  · rintro ⟨x, y, h1, h2, h3⟩
    exact ⟨x, y, h1.congr e, (e _ _).mp h2, h3.congr e⟩
  · rintro ⟨x, y, h1, h2, h3⟩
    have e2 : ∀ x y, y ∈ sd x ↔ y ∈ sc x := fun x y => (e x y).symm
    exact ⟨x, y, h1.congr e2, (e2 _ _).mp h2, h3.congr e2⟩
/-- those of whom somebody's entry still is among them -/
def prune (sc : α → List α) (xs : List α) : List α := xs.filter fun x => (sc x).any fun y => decide (y ∈ xs)
theorem prune_mem {xs : List α} {x : α} : x ∈ prune sc xs ↔ x ∈ xs ∧ ∃ y, y ∈ sc x ∧ y ∈ xs := by
  unfold prune
  rw [List.mem_filter, List.any_eq_true]
  constructor
  · rintro ⟨h, y, my, d⟩
    exact ⟨h, y, my, of_decide_eq_true d⟩
  · rintro ⟨h, y, my, d⟩
    exact ⟨h, y, my, decide_eq_true d⟩
theorem prune_less {xs : List α} (h : prune sc xs ≠ xs) : (prune sc xs).length < xs.length := by
  refine Nat.lt_of_le_of_ne (List.length_filter_le _ _) fun e => h ?_
  exact (List.filter_sublist (l := xs)).eq_of_length e
/-- a part that leads into itself -/
def Closed (sc : α → List α) (xs : List α) : Prop := ∀ x ∈ xs, ∃ y, y ∈ sc x ∧ y ∈ xs
theorem closed_of {xs : List α} (h : prune sc xs = xs) : Closed sc xs := fun x m => by
  rw [← h] at m
  exact (prune_mem.mp m).2
/-- who comes back to himself stays, whatever is taken away -/
def Keeps (sc : α → List α) (a : α) (xs : List α) : Prop := ∀ x y, Rch sc a x → y ∈ sc x → Rch sc y x → x ∈ xs
theorem Keeps.prune {a : α} {xs : List α} (h : Keeps sc a xs) : Keeps sc a (prune sc xs) := fun x y r m b => by
  refine prune_mem.mpr ⟨h x y r m b, ?_⟩
  -- y lies on a ring, too
  refine ⟨y, m, ?_⟩
  cases b with
  | refl => exact h x x r m .refl
  | @step z _ b2 m2 =>
    -- y comes by z to x, and x to y
    have ry : Rch sc a y := .step r m
    -- the first step from y
    have first : ∀ {u v : α}, Rch sc u v → u = v ∨ ∃ w, w ∈ sc u ∧ Rch sc w v := fun {u v} k => by
      induction k with
      | refl => exact .inl rfl
      | @step p q kp mq ih =>
        rcases ih with rfl | ⟨w, mw, kw⟩
        · exact .inr ⟨q, mq, .refl⟩
        · exact .inr ⟨w, mw, .step kw mq⟩
    rcases first b2 with rfl | ⟨w, mw, kw⟩
    · exact h y x ry m2 (.step .refl m)
    · exact h y w ry mw ((kw.trans (.step .refl m2)).trans (.step .refl m))
/-- a ring: no address twice, each one's entry has the next, the last one's the first -/
structure Ring (sc : α → List α) (rs : List α) : Prop where
  nd : rs.Nodup
  ne : rs ≠ []
  next : ∀ i x y, rs[i]? = some x → rs[i + 1]? = some y → y ∈ sc x
  back : ∀ x y, rs[rs.length - 1]? = some x → rs[0]? = some y → y ∈ sc x
/-- a way, each the next of the one ahead -/
structure Way (sc : α → List α) (ws : List α) : Prop where
  nd : ws.Nodup
  ne : ws ≠ []
  next : ∀ i x y, ws[i]? = some x → ws[i + 1]? = some y → y ∈ sc x
theorem Way.one {x : α} : Way sc [x] := ⟨by simp, by simp, fun i u v h1 h2 => by
  have : i + 1 < 1 := (List.getElem?_eq_some_iff.mp h2).1
  omega⟩
theorem Way.more {ws : List α} {x y : α} (h : Way sc ws) (hx : ws[ws.length - 1]? = some x) (m : y ∈ sc x) (n : y ∉ ws) : Way sc (ws ++ [y]) := by
  have lw : 0 < ws.length := List.length_pos_iff.mpr h.ne
  refine ⟨?_, by simp, fun i u v h1 h2 => ?_⟩
  · rw [List.nodup_append]
    exact ⟨h.nd, by simp, fun u mu v mv e => n (by rw [← List.mem_singleton.mp mv, ← e]; exact mu)⟩
  · have li : i + 1 < ws.length + 1 := by
      have := (List.getElem?_eq_some_iff.mp h2).1
      rw [List.length_append, List.length_singleton] at this
      exact this
    rw [List.getElem?_append_left (by omega)] at h1
    by_cases z : i + 1 < ws.length
    · rw [List.getElem?_append_left z] at h2
      exact h.next i u v h1 h2
    · have e : i = ws.length - 1 := by omega
      rw [e, hx] at h1
      obtain rfl := Option.some.inj h1
      have e2 : i + 1 = ws.length := by omega
      rw [e2, List.getElem?_append_right (Nat.le_refl _), Nat.sub_self] at h2
      obtain rfl := Option.some.inj h2
      exact m
/-- where the next one has been met: the ring -/
theorem Way.ring {ws : List α} {x y : α} {k : Nat} (h : Way sc ws) (hx : ws[ws.length - 1]? = some x) (m : y ∈ sc x) (hk : ws[k]? = some y) : Ring sc (ws.drop k) := by
  have lk : k < ws.length := (List.getElem?_eq_some_iff.mp hk).1
  refine ⟨h.nd.sublist (List.drop_sublist k ws), ?_, fun i u v h1 h2 => ?_, fun u v h1 h2 => ?_⟩
  · intro z
    have := congrArg List.length z
    rw [List.length_drop] at this
    simp at this
    omega
  · rw [List.getElem?_drop] at h1 h2
    exact h.next (k + i) u v h1 (by rw [← h2]; congr 1)
  · rw [List.getElem?_drop] at h1 h2
    rw [List.length_drop] at h1
    have e : k + (ws.length - k - 1) = ws.length - 1 := by omega
    rw [e, hx] at h1
    obtain rfl := Option.some.inj h1
    rw [Nat.add_zero, hk] at h2
    obtain rfl := Option.some.inj h2
    exact m
theorem Ring.rch {rs : List α} (h : Ring sc rs) {x : α} (h0 : rs[0]? = some x) : ∀ (i : Nat) (y : α), rs[i]? = some y → Rch sc x y
  | 0, y, e => by
    rw [h0] at e
    obtain rfl := Option.some.inj e
    exact .refl
  | i + 1, y, e => by
    have li : i < rs.length := by
      have := (List.getElem?_eq_some_iff.mp e).1
      omega
    exact .step (h.rch h0 i rs[i] (List.getElem?_eq_getElem li)) (h.next i _ y (List.getElem?_eq_getElem li) e)
/-- a ring to which one comes: one goes round -/
theorem Ring.round {rs : List α} (h : Ring sc rs) {a x : α} (h0 : rs[0]? = some x) (r : Rch sc a x) : Round sc a := by
  have l : 0 < rs.length := List.length_pos_iff.mpr h.ne
  have hl : rs[rs.length - 1]? = some rs[rs.length - 1] := List.getElem?_eq_getElem (by omega)
  have m := h.back _ x hl h0
  have b := h.rch h0 (rs.length - 1) _ hl
  exact ⟨_, x, r.trans b, m, b⟩
/-- no entry of oneself: a ring has two at least -/
theorem Ring.two {rs : List α} (h : Ring sc rs) (no : ∀ x, x ∉ sc x) : 2 ≤ rs.length := by
  have l : 0 < rs.length := List.length_pos_iff.mpr h.ne
  refine Classical.byContradiction fun z => ?_
  have e : rs.length = 1 := by omega
  have h0 : rs[0]? = some rs[0] := List.getElem?_eq_getElem (by omega)
  refine no rs[0] (h.back _ _ ?_ h0)
  rw [e]
  exact h0
/-- nothing is left just where one does not go round -/
theorem Keeps.none {a : α} {xs : List α} (h : Keeps sc a xs) (e : xs = []) : ¬ Round sc a := by
  rintro ⟨x, y, h1, h2, h3⟩
  have := h x y h1 h2 h3
  rw [e] at this
  cases this
end BK
/-! ### the walks as functions: what is told again is the same -/
namespace BK
variable {α : Type} [DecidableEq α] {sc : α → List α}
/-- who is met, in the order of meeting -/
def comeI (sc : α → List α) : Nat → List α → Nat → List α
  | 0, met, _ => met
  | n + 1, met, i => match met[i]? with
    | none => met
    | some x => comeI sc n (met ++ (sc x).filter fun y => !decide (y ∈ met)) (i + 1)
theorem comeI_step {n i : Nat} {met : List α} {x : α} (h : met[i]? = some x) : comeI sc (n + 1) met i = comeI sc n (met ++ (sc x).filter fun y => !decide (y ∈ met)) (i + 1) := by
  rw [comeI, h]
theorem comeI_end {n : Nat} {met : List α} : comeI sc n met met.length = met := by
  cases n with
  | zero => rfl
  | succ n => rw [comeI, List.getElem?_eq_none (Nat.le_refl _)]
/-- taking away until nothing goes -/
def narrow (sc : α → List α) : Nat → List α → List α
  | 0, xs => xs
  | n + 1, xs => if prune sc xs = xs then xs else narrow sc n (prune sc xs)
theorem narrow_fuel : ∀ (n m : Nat) (xs : List α), xs.length ≤ n → xs.length ≤ m → narrow sc n xs = narrow sc m xs
  | 0, 0, _, _, _ => rfl
  | 0, m + 1, xs, h, _ => by
    have e : xs = [] := List.eq_nil_of_length_eq_zero (Nat.le_zero.mp h)
    subst e
    have z : prune sc ([] : List α) = [] := rfl
    rw [narrow, narrow, if_pos z]
  | n + 1, 0, xs, _, h => by
    have e : xs = [] := List.eq_nil_of_length_eq_zero (Nat.le_zero.mp h)
    subst e
    have z : prune sc ([] : List α) = [] := rfl
    rw [narrow, narrow, if_pos z]
  | n + 1, m + 1, xs, h1, h2 => by
    rw [narrow, narrow]
    by_cases e : prune sc xs = xs
    · rw [if_pos e, if_pos e]
    · rw [if_neg e, if_neg e]
      have := prune_less e
      exact narrow_fuel n m _ (by omega) (by omega)
def narrowL (sc : α → List α) (xs : List α) : List α := narrow sc xs.length xs
theorem narrowL_end {xs : List α} (h : prune sc xs = xs) : narrowL sc xs = xs := by
  unfold narrowL
  cases e : xs.length with
  | zero => rfl
  | succ n => rw [narrow, if_pos h]
theorem narrowL_step {xs : List α} (h : prune sc xs ≠ xs) : narrowL sc xs = narrowL sc (prune sc xs) := by
  have l := prune_less h
  unfold narrowL
  cases e : xs.length with
  | zero => omega
  | succ n =>
    rw [narrow, if_neg h]
    exact narrow_fuel _ _ _ (by omega) (Nat.le_refl _)
theorem narrow_keep {P : List α → Prop} (h : ∀ xs, P xs → P (prune sc xs)) : ∀ (n : Nat) (xs : List α), P xs → P (narrow sc n xs)
  | 0, _, p => p
  | n + 1, xs, p => by
    rw [narrow]
    by_cases e : prune sc xs = xs
    · rw [if_pos e]
      exact p
    · rw [if_neg e]
      exact narrow_keep h n _ (h xs p)
theorem narrow_shut : ∀ (n : Nat) (xs : List α), xs.length ≤ n → prune sc (narrow sc n xs) = narrow sc n xs
  | 0, xs, h => by
    have e : xs = [] := List.eq_nil_of_length_eq_zero (Nat.le_zero.mp h)
    subst e
    rfl
  | n + 1, xs, h => by
    rw [narrow]
    by_cases e : prune sc xs = xs
    · rw [if_pos e, e]
    · rw [if_neg e]
      have := prune_less e
      exact narrow_shut n _ (by omega)
theorem narrowL_shut {xs : List α} : Closed sc (narrowL sc xs) := closed_of (narrow_shut _ _ (Nat.le_refl _))
theorem narrowL_sub {xs : List α} : ∀ x ∈ narrowL sc xs, x ∈ xs :=
  narrow_keep (P := fun ys => ∀ y ∈ ys, y ∈ xs) (fun ys p y m => p y (prune_mem.mp m).1) _ _ fun y m => m
theorem narrowL_nd {xs : List α} (h : xs.Nodup) : (narrowL sc xs).Nodup := narrow_keep (P := List.Nodup) (fun ys p => p.filter _) _ _ h
theorem narrowL_keeps {a : α} {xs : List α} (h : Keeps sc a xs) : Keeps sc a (narrowL sc xs) := narrow_keep (P := Keeps sc a) (fun ys p => p.prune) _ _ h
/-- the first of somebody's entry that is among them -/
def stepL (sc : α → List α) (inner : List α) (x : α) : List α := (sc x).filter fun y => decide (y ∈ inner)
/-- along until one is met again -/
def wayI (sc : α → List α) (inner : List α) : Nat → List α → List α
  | 0, ws => ws
  | n + 1, ws => match ws.getLast?.bind fun x => (stepL sc inner x)[0]? with
    | none => ws
    | some y => if y ∈ ws then ws.drop (ws.idxOf y) else wayI sc inner n (ws ++ [y])
theorem wayI_back {n : Nat} {inner ws : List α} {x y : α} (h1 : ws.getLast? = some x) (h2 : (stepL sc inner x)[0]? = some y) (h3 : y ∈ ws) : wayI sc inner (n + 1) ws = ws.drop (ws.idxOf y) := by
  rw [wayI, h1]
  show (match (stepL sc inner x)[0]? with | none => ws | some y => _) = _
  rw [h2]
  exact if_pos h3
theorem wayI_on {n : Nat} {inner ws : List α} {x y : α} (h1 : ws.getLast? = some x) (h2 : (stepL sc inner x)[0]? = some y) (h3 : y ∉ ws) : wayI sc inner (n + 1) ws = wayI sc inner n (ws ++ [y]) := by
  rw [wayI, h1]
  show (match (stepL sc inner x)[0]? with | none => ws | some y => _) = _
  rw [h2]
  exact if_neg h3
theorem step_there {inner : List α} {x : α} (c : Closed sc inner) (m : x ∈ inner) : ∃ y, (stepL sc inner x)[0]? = some y ∧ y ∈ sc x ∧ y ∈ inner := by
  obtain ⟨y, h1, h2⟩ := c x m
  have my : y ∈ stepL sc inner x := List.mem_filter.mpr ⟨h1, decide_eq_true h2⟩
  have l : 0 < (stepL sc inner x).length := List.length_pos_of_mem my
  have g : (stepL sc inner x)[0]? = some (stepL sc inner x)[0] := List.getElem?_eq_getElem l
  have z := List.mem_filter.mp (List.mem_of_getElem? g)
  exact ⟨_, g, z.1, of_decide_eq_true z.2⟩
theorem last_at {ws : List α} {x : α} : ws.getLast? = some x ↔ ws[ws.length - 1]? = some x := by
  rw [List.getLast?_eq_getElem?]
theorem sub_len [DecidableEq α] : ∀ {l m : List α}, l.Nodup → (∀ x ∈ l, x ∈ m) → l.length ≤ m.length
  | [], _, _, _ => Nat.zero_le _
  | x :: l, m, h, s => by
    have hx : x ∈ m := s x (List.mem_cons_self ..)
    have h2 := List.nodup_cons.mp h
    have := sub_len (l := l) (m := m.erase x) h2.2 fun y my => by
      refine (List.mem_erase_of_ne fun e => h2.1 (by rw [← e]; exact my)).mpr (s y (List.mem_cons_of_mem _ my))
    rw [List.length_erase_of_mem hx] at this
    have l0 : 0 < m.length := List.length_pos_of_mem hx
    rw [List.length_cons]
    omega
/-- what the walk comes to: a ring -/
theorem wayI_ring {inner : List α} (c : Closed sc inner) : ∀ (n : Nat) (ws : List α), Way sc ws → (∀ x ∈ ws, x ∈ inner) → inner.length < n + ws.length → Ring sc (wayI sc inner n ws) ∧ ∀ x ∈ wayI sc inner n ws, x ∈ inner
  | n, ws, w, s, l => by
    have lw : ws.length ≤ inner.length := sub_len w.nd s
    obtain ⟨n, rfl⟩ : ∃ k, n = k + 1 := ⟨n - 1, by omega⟩
    have l0 : 0 < ws.length := List.length_pos_iff.mpr w.ne
    have g : ws[ws.length - 1]? = some ws[ws.length - 1] := List.getElem?_eq_getElem (by omega)
    have gm := s _ (List.mem_of_getElem? g)
    obtain ⟨y, h1, h2, h3⟩ := step_there c gm
    by_cases m : y ∈ ws
    · rw [wayI_back (last_at.mpr g) h1 m]
      have hk : ws[ws.idxOf y]? = some y := by
        have z : ws.idxOf y < ws.length := List.idxOf_lt_length_of_mem m
        rw [List.getElem?_eq_getElem z, List.getElem_idxOf z]
      exact ⟨w.ring g h2 hk, fun x mx => s x (List.drop_sublist _ _ |>.subset mx)⟩
    · rw [wayI_on (last_at.mpr g) h1 m]
      refine wayI_ring c n _ (w.more g h2 m) (fun x mx => ?_) (by rw [List.length_append, List.length_singleton]; omega)
      rcases List.mem_append.mp mx with z | z
      · exact s x z
      · rw [List.mem_singleton.mp z]
        exact h3
/-- a ring among some, none if there is none -/
def ringL (sc : α → List α) (xs : List α) : Option (List α) := match narrowL sc xs with
  | [] => none
  | x :: r => some (wayI sc (x :: r) (x :: r).length [x])
theorem ringL_none {a : α} {xs : List α} (k : Keeps sc a xs) (h : ringL sc xs = none) : ¬ Round sc a := by
  refine (narrowL_keeps k).none ?_
  unfold ringL at h
  cases e : narrowL sc xs with
  | nil => rfl
  | cons x r =>
    rw [e] at h
    cases h
theorem ringL_some {xs rs : List α} (h : ringL sc xs = some rs) : Ring sc rs ∧ ∀ x ∈ rs, x ∈ xs := by
  unfold ringL at h
  have c : Closed sc (narrowL sc xs) := narrowL_shut
  have s := narrowL_sub (sc := sc) (xs := xs)
  cases e : narrowL sc xs with
  | nil =>
    rw [e] at h
    cases h
  | cons x r =>
    rw [e] at h c s
    obtain rfl := Option.some.inj h
    have z := wayI_ring c (x :: r).length [x] Way.one (fun y m => by rw [List.mem_singleton.mp m]; exact List.mem_cons_self ..) (by rw [List.length_singleton]; omega)
    exact ⟨z.1, fun y m => s y (z.2 y m)⟩
/-- who comes back to himself has an entry -/
theorem keeps_first {a : α} {met : List α} (m : ∀ x, Rch sc a x → x ∈ met) {p : α → Bool} (hp : ∀ x y, y ∈ sc x → p x = true) : Keeps sc a (met.filter p) := fun x y r h _ => List.mem_filter.mpr ⟨m x r, hp x y h⟩
end BK
namespace BK
theorem nodup_sub {α : Type} [DecidableEq α] : ∀ {l m : List α}, l.Nodup → (∀ x ∈ l, x ∈ m) → l.length ≤ m.length
  | [], _, _, _ => Nat.zero_le _
  | x :: l, m, h, s => by
    have hx : x ∈ m := s x (List.mem_cons_self ..)
    have h2 := List.nodup_cons.mp h
    have := nodup_sub (l := l) (m := m.erase x) h2.2 fun y my => by
      refine (List.mem_erase_of_ne fun e => h2.1 (by rw [← e]; exact my)).mpr (s y (List.mem_cons_of_mem _ my))
    rw [List.length_erase_of_mem hx] at this
    have l0 : 0 < m.length := List.length_pos_of_mem hx
    rw [List.length_cons]
    omega
end BK
namespace OB
open PySem PySem.Spec PyProof.Rows L2
abbrev sCome : Stmt := top 27
theorem op_ninK {X : Cx} {K : PySem.W.Frag} (h : X.K = K) : OpR X (compareOp .NotIn) (rIn K true) := by
  subst h
  exact op_notIn_seq
theorem while_go {c : TT} {tb : TS} {D : Ends} {σ : L2.St} {H : Hp} (Pv : Nat → L2.St → Hp → Prop) (h0 : ∃ m, Pv m σ H)
    (hs : ∀ m σ H, Pv m σ H → c σ H fun b H1 => if b = true then tb { D with nx := fun σ' H' => ∃ m', m' < m ∧ Pv m' σ' H', ct := fun σ' H' => ∃ m', m' < m ∧ Pv m' σ' H', bk := D.nx } σ H1 else D.nx σ H1)
    (mono : ∀ σ H (Q Q' : Bool → Hp → Prop), (∀ b H1, Q b H1 → Q' b H1) → c σ H Q → c σ H Q') : tWhile c tb D σ H := by
  refine ⟨Pv, h0, fun m σ H w => mono σ H _ _ (fun b H1 q => ?_) (hs m σ H w)⟩
  cases b with
  | true => exact ⟨_, fun σ' H' z => z, q⟩
  | false => exact q
/-- where an entry leads -/
def scF (sc : Str → Option (List Str)) (x : Str) : List Str := (sc x).getD []
/-- at b the book sc -/
def BookAt (H : Hp) (b : Addr) (sc : Str → Option (List Str)) : Prop := ∃ kvs, H b = some (.dK kvs) ∧ ∀ x, match sc x with
  | none => valV kvs (.inr x) = none
  | some es => ∃ t, valV kvs (.inr x) = some (.ref t) ∧ H t = some (.tup (es.map V.str))
theorem BookAt.same {H H' : Hp} {b : Addr} {sc : Str → Option (List Str)} (h : BookAt H b sc) (e : Same H H') : BookAt H' b sc := by
  obtain ⟨kvs, h1, h2⟩ := h
  refine ⟨kvs, e _ _ h1, fun x => ?_⟩
  have := h2 x
  cases hx : sc x with
  | none =>
    rw [hx] at this
    exact this
  | some es =>
    rw [hx] at this
    obtain ⟨t, a1, a2⟩ := this
    exact ⟨t, a1, e _ _ a2⟩
/-- a book of some names -/
structure BookN (ns : List Str) (sc : Str → Option (List Str)) : Prop where
  few : ns.length ≤ 100
  nd : ∀ x, (scF sc x).Nodup
  sub : ∀ x, ∀ y ∈ scF sc x, y ∈ ns
def spCome : Sp := fun vs H Q _ => ∃ (b : Addr) (ad : Str) (ns : List Str) (sc : Str → Option (List Str)), vs = [.ref b, .str ad] ∧ BookAt H b sc ∧ BookN ns sc ∧ ad ∈ ns ∧ ∀ H' D met, Same H H' → H D = none → BK.MetA (scF sc) ad met → (∀ x ∈ met, x ∈ ns) → H' D = some (.lst (met.map V.str)) → Q (.ref D) H'
/-- who is met, told as a function of the book -/
def spComeF : Sp := fun vs H Q _ => ∃ (b : Addr) (ad : Str) (ns : List Str) (sc : Str → Option (List Str)), vs = [.ref b, .str ad] ∧ BookAt H b sc ∧ BookN ns sc ∧ ad ∈ ns ∧ ∀ H' D met, Same H H' → H D = none → met = BK.comeI (scF sc) ns.length [ad] 0 → BK.MetA (scF sc) ad met → (∀ x ∈ met, x ∈ ns) → H' D = some (.lst (met.map V.str)) → Q (.ref D) H'
section
variable {P : Program} {w : World} {K : PySem.W.Frag} {mg : Str → Option Value} {base : Heap}
theorem scCome : FnScope ["book", "address", "met", "index", "other"] ["book", "address"] (defScope sCome) := ⟨rfl, rfl, rfl, by decide +kernel, rfl, by decide +kernel, by decide +kernel⟩
theorem ok_come {f : Addr} {fd : FuncData} (F : Fun K "come_by" "come_by" sCome f fd) (T : TxtC mg) (le : mg "len" = none) : FnOk P w K mg base CX0 1 f fd ["book", "address"] spComeF := by
  refine F.ok scCome (fun vs H Q E h => ?_) (fun cdv A outer s H vs Q E hr h => ?_)
  · obtain ⟨b, ad, ns, sc, rfl, _⟩ := h
    rfl
  · obtain ⟨b, ad, ns, sc, rfl, bk, bn, adn, q⟩ := h
    have nd := scCome.nd
    have hun := hr.units
    refine ⟨_, pss_cons (ps_set (i := 2) nd rfl (Or.inr rfl) (pe_lst (pa_cons (pv 1) pa_nil)))
      (pss_cons (ps_set (i := 3) nd rfl (Or.inl rfl) pe_int)
      (pss_cons (ps_while PassesOwn.never (pt_cmpR op_lt (pv 3) (pe_callB call_len_seq (by rfl) le PySem.boot_len (pa_cons (pv 2) pa_nil)) (nomark _))
        (pss_cons (ps_expr (pe_bm PySem.F.plainAttrs_list PySem.F.slot_list_extend PySem.F.type_list_extend mt_extend (pv 2) (pa_cons (pe_lc (own := [("other", 4)]) (g := gName 4) (tt := tTest (tOp (rIn K true) (tVar 4) (tVar 2))) rfl nd (pi_tup (pe_dget2 (Nat.lt_of_le_of_lt (Nat.add_le_add_left (by decide : 1 ≤ 64) _) hun) (pv 0) (pe_ix ix_list (pv 2) (pv 3) (fun _ _ => rfl)) (pe_tup pa_nil) ⟨by rfl, by rfl, by rfl, by rfl⟩))
            (blkOk_by (N := ["book", "address", "met", "index", "other"]) (sc := defScope sCome) (by decide +kernel)) (fun _ _ _ _ _ => pg_name (i := 4) nd rfl (Or.inl rfl)) (fun _ _ _ _ _ => pts_one (pt_cmpR (op_ninK (K := K) rfl) (pv 4) (pv 2) (by rfl))) (fun _ _ _ _ _ => pv 4)) pa_nil)))
        (pss_one (ps_aug (i := 3) nd rfl (Or.inl rfl) pe_int ip_add))))
      (pss_one (ps_ret (pv 2))))), ?_⟩
    refine ⟨_, rfl, by show 1 ≤ sizeLine; decide, fun D nD => ?_⟩
    have e0 : Same H (upd H D (.lst [.str ad])) := Same.new nD
    have gD : (upd H D (.lst [.str ad])) D = some (.lst ([ad].map V.str)) := upd_same
    show tSeq _ _ _ _ (upd H D (.lst [.str ad]))
    generalize upd H D (.lst [.str ad]) = H1 at e0 gD ⊢
    have few := bn.few
    refine while_go (fun mm σ G => ∃ (met : List Str) (i : Nat), σ = [some (.ref b), some (.str ad), some (.ref D), some (.int (i : Nat)), none] ∧ Same H G ∧ G D = some (.lst (met.map V.str)) ∧ BK.MetI (scF sc) ad met i ∧ (∀ x ∈ met, x ∈ ns) ∧ mm = ns.length - i ∧ BK.comeI (scF sc) (ns.length - i) met i = BK.comeI (scF sc) ns.length [ad] 0)
      ⟨_, [ad], 0, rfl, e0, gD, BK.MetI.start, (fun x m => by rw [List.mem_singleton.mp m]; exact adn), rfl, rfl⟩ (fun mm σ G z => ?_) (fun σ G Q Q' hq h => ?_)
    · obtain ⟨met, i, rfl, eG, gG, mi, ms, rfl, hc⟩ := z
      have lm : met.length ≤ ns.length := BK.nodup_sub mi.nd ms
      refine ⟨_, rfl, _, rfl, D, _, rfl, .inl (SqL.of gG), _, _, rfl, rfl, _, rfl, ?_⟩
      refine ite2 (fun h => ?_) (fun h => ?_)
      · have h := of_decide_eq_true h
        rw [List.length_map] at h
        have hi : i < met.length := by omega
        have hx : met[i]? = some met[i] := List.getElem?_eq_getElem hi
        generalize met[i] = x at hx
        obtain ⟨kvs, hk, hb⟩ := bk.same eG
        refine ⟨_, rfl, .inl ⟨rfl, _, SqL.of gG⟩, _, rfl, b, rfl, .inl ⟨_, .of hk⟩, _, rfl, _, rfl, D, _, (i : Nat), .str x, rfl, rfl, SqL.of gG, atI_nat (by rw [List.getElem?_map, hx] <;> rfl), Nat.zero_le _, fun Tt nT => ?_⟩
        have eT : Same G (upd G Tt (.tup [])) := Same.new nT
        have gT : (upd G Tt (.tup [])) Tt = some (.tup []) := upd_same
        generalize upd G Tt (.tup []) = G2 at eT gT
        have gG2 := eT _ _ gG
        obtain ⟨ta, hv, gta⟩ : ∃ ta, (valV kvs (.inr x)).getD (.ref Tt) = .ref ta ∧ G2 ta = some (.tup ((scF sc x).map V.str)) := by
          have hbx := hb x
          unfold scF
          cases hsx : sc x with
          | none =>
            rw [hsx] at hbx
            have hbx : valV kvs (.inr x) = none := hbx
            exact ⟨Tt, by rw [hbx] <;> rfl, gT⟩
          | some es =>
            rw [hsx] at hbx
            obtain ⟨t, h1, h2⟩ := hbx
            exact ⟨t, by rw [h1] <;> rfl, eT _ _ h2⟩
        refine ⟨valV kvs (.inr x), .inl ⟨kvs, .inr x, .of (eT _ _ hk), rfl, rfl⟩, ta, hv, ⟨_, SqT.of gta⟩, fun B nB => ?_⟩
        have nds := bn.nd x
        have subs := bn.sub x
        have les : (scF sc x).length ≤ 100 := Nat.le_trans (BK.nodup_sub nds subs) few
        have mi2 := mi.next hx nds
        have hc2 : BK.comeI (scF sc) (ns.length - (i + 1)) (met ++ (scF sc x).filter fun y => !decide (y ∈ met)) (i + 1) = BK.comeI (scF sc) ns.length [ad] 0 := by
          rw [← hc, ← BK.comeI_step hx]
          congr 1
          omega
        generalize scF sc x = es at gta nds subs les mi2 hc2
        refine lc_it (walk_tup (xs := es.map V.str)) (AccP B G2 (fun j => ((es.take j).filter fun y => !decide (y ∈ met)).map V.str)) (acc_start rfl) (fun j G' _ z => SqT.of (acc_same z (Same.refl G2) nB _ _ gta)) (fun j y G' G'' hj z w => ?_) (fun G' z => ?_)
        · obtain ⟨rfl, hw⟩ := w
          rw [List.getElem?_map] at hw
          obtain ⟨o, ho, rfl⟩ := Option.map_eq_some_iff.mp hw
          have es1 := acc_same z (Same.refl G2) nB
          have step : ((es.take (j + 1)).filter fun y => !decide (y ∈ met)) = ((es.take j).filter fun y => !decide (y ∈ met)) ++ (if o ∈ met then [] else [o]) := by
            rw [List.take_add_one, ho, List.filter_append]
            congr 1
            by_cases y : o ∈ met
            · rw [if_pos y]
              simp [y]
            · rw [if_neg y]
              simp [y]
          have ol : (((es.take j).filter fun y => !decide (y ∈ met)).map V.str).length < sizeLine := by
            have h1 : ((es.take j).filter fun y => !decide (y ∈ met)).length ≤ (es.take j).length := List.length_filter_le _ _
            rw [List.length_take] at h1
            rw [List.length_map, sizeLine_eq]
            omega
          refine ⟨rfl, _, rfl, _, rfl, D, _, rfl, .inl (SqL.of (es1 _ _ gG2)), rfl, flat_txt met, ?_⟩
          have ei : inV (.str o) (met.map V.str) = decide (o ∈ met) := inV_txt o met
          refine ⟨_, rfl, ?_⟩
          show (if (!inV (.str o) (met.map V.str)) = true then _ else _)
          rw [ei]
          refine ite2 (fun h => ?_) (fun h => ?_)
          · have hn : ¬ o ∈ met := fun y => by simp [y] at h
            rw [if_neg hn] at step
            exact ⟨_, rfl, acc_in z (Same.refl _) ol (by show (List.filter _ (es.take (j + 1))).map V.str = _; rw [step, List.map_append] <;> rfl)⟩
          · have hn : o ∈ met := Classical.byContradiction fun y => h (by simp [y])
            rw [if_pos hn, List.append_nil] at step
            exact acc_out z (Same.refl _) (by show (List.filter _ (es.take (j + 1))).map V.str = _; rw [step])
        · have gB : G' B = some (.lst ((es.filter fun y => !decide (y ∈ met)).map V.str)) := by
            have this : G' B = some (.lst (((es.take (es.map V.str).length).filter fun y => !decide (y ∈ met)).map V.str)) := z.2
            rw [List.length_map, List.take_length] at this
            exact this
          have es1 := acc_same z (Same.refl G2) nB
          have gD2 := es1 _ _ gG2
          have le2 : ((es.filter fun y => !decide (y ∈ met))).length ≤ es.length := List.length_filter_le _ _
          refine ⟨D, B, _, _, rfl, rfl, gD2, gB, by rw [List.length_map, List.length_map, sizeLine_eq]; omega, ?_⟩
          refine ⟨_, rfl, _, 1, rfl, rfl, ns.length - (i + 1), by omega, _, i + 1, rfl, fun b2 o eb => ?_, by rw [upd_same, List.map_append], mi2, fun y my => ?_, rfl, hc2⟩
          · rw [upd_ne (ne_of_none eb nD)]
            exact es1 _ _ (eT _ _ (eG _ _ eb))
          · rcases List.mem_append.mp my with m | m
            · exact ms y m
            · exact subs y (List.mem_filter.mp m).1
      · have hi : i = met.length := by
          have h2 := mi.le
          have : ¬ ((i : Nat) : Int) < ((met.map V.str).length : Nat) := fun y => h (decide_eq_true y)
          rw [List.length_map] at this
          omega
        rw [hi] at mi hc
        rw [BK.comeI_end] at hc
        exact ⟨_, rfl, q G D met eG nD hc mi.all ms gG⟩
    · obtain ⟨x3, h3, x2, h2, p2, ys2, z2, ty2, i, j, z3, z4, c, z5, q⟩ := h
      exact ⟨x3, h3, x2, h2, p2, ys2, z2, ty2, i, j, z3, z4, c, z5, hq _ _ q⟩
end
end OB
namespace OB
open PySem PySem.Spec PyProof.Rows L2
abbrev sReach : Stmt := top 41
section
variable {P : Program} {w : World} {K : PySem.W.Frag} {mg : Str → Option Value} {base : Heap}
theorem scReach : FnScope ["book", "address", "found", "at", "one"] ["book", "address"] (defScope sReach) := ⟨rfl, rfl, rfl, by decide +kernel, rfl, by decide +kernel, by decide +kernel⟩
theorem ok_reach {f : Addr} {fd : FuncData} (F : Fun K "_law_reach" "_law_reach" sReach f fd) (T : TxtC mg) (le : mg "len" = none) : FnOk P w K mg base CX0 1 f fd ["book", "address"] spCome := by
  refine F.ok scReach (fun vs H Q E h => ?_) (fun cdv A outer s H vs Q E hr h => ?_)
  · obtain ⟨b, ad, ns, sc, rfl, _⟩ := h
    rfl
  · obtain ⟨b, ad, ns, sc, rfl, bk, bn, adn, q⟩ := h
    have nd := scReach.nd
    have hun := hr.units
    refine ⟨_, pss_cons (ps_asg (pe_tup (pa_cons (pe_lst (pa_cons (pv 1) pa_nil)) (pa_cons pe_int pa_nil))) (pg_tup (by rfl) (pgs_cons (pg_name (i := 2) nd rfl (Or.inr rfl)) (pgs_cons (pg_name (i := 3) nd rfl (Or.inl rfl)) pgs_nil))))
      (pss_cons (ps_while PassesOwn.never (pt_cmpR op_lt (pv 3) (pe_callB call_len_seq (by rfl) le PySem.boot_len (pa_cons (pv 2) pa_nil)) (nomark _))
        (pss_cons (ps_expr (pe_bm PySem.F.plainAttrs_list PySem.F.slot_list_extend PySem.F.type_list_extend mt_extend (pv 2) (pa_cons (pe_lc (own := [("one", 4)]) (g := gName 4) (tt := tTest (tOp (rIn K true) (tVar 4) (tVar 2))) rfl nd (pi_tup (pe_dget2 (Nat.lt_of_le_of_lt (Nat.add_le_add_left (by decide : 1 ≤ 64) _) hun) (pv 0) (pe_ix ix_list (pv 2) (pv 3) (fun _ _ => rfl)) (pe_tup pa_nil) ⟨by rfl, by rfl, by rfl, by rfl⟩))
            (blkOk_by (N := ["book", "address", "found", "at", "one"]) (sc := defScope sReach) (by decide +kernel)) (fun _ _ _ _ _ => pg_name (i := 4) nd rfl (Or.inl rfl)) (fun _ _ _ _ _ => pts_one (pt_cmpR (op_ninK (K := K) rfl) (pv 4) (pv 2) (by rfl))) (fun _ _ _ _ _ => pv 4)) pa_nil)))
        (pss_one (ps_set (i := 3) nd rfl (Or.inl rfl) (pe_op op_add (pv 3) pe_int)))))
      (pss_one (ps_ret (pv 2)))), ?_⟩
    refine ⟨_, rfl, by show 1 ≤ sizeLine; decide, fun D nD => ?_⟩
    have e0 : Same H (upd H D (.lst [.str ad])) := Same.new nD
    have gD : (upd H D (.lst [.str ad])) D = some (.lst ([ad].map V.str)) := upd_same
    refine ⟨by show 2 ≤ sizeLine; decide, fun tt ntt => ⟨tt, _, rfl, SqT.of upd_same, rfl, .ref D, _, rfl, .int ((0 : Nat) : Int), _, rfl, rfl, ?_⟩⟩
    have e0 := e0.trans (Same.new (u := .tup [.ref D, .int ((0 : Nat) : Int)]) ntt)
    have gD := Same.new (u := .tup [.ref D, .int ((0 : Nat) : Int)]) ntt _ _ gD
    dsimp only [gName, gCons, gNil]
    generalize upd (upd H D (.lst [.str ad])) tt (.tup [.ref D, .int ((0 : Nat) : Int)]) = H1 at e0 gD ⊢
    have few := bn.few
    refine while_go (fun mm σ G => ∃ (met : List Str) (i : Nat), σ = [some (.ref b), some (.str ad), some (.ref D), some (.int (i : Nat)), none] ∧ Same H G ∧ G D = some (.lst (met.map V.str)) ∧ BK.MetI (scF sc) ad met i ∧ (∀ x ∈ met, x ∈ ns) ∧ mm = ns.length - i)
      ⟨_, [ad], 0, rfl, e0, gD, BK.MetI.start, (fun x m => by rw [List.mem_singleton.mp m]; exact adn), rfl⟩ (fun mm σ G z => ?_) (fun σ G Q Q' hq h => ?_)
    · obtain ⟨met, i, rfl, eG, gG, mi, ms, rfl⟩ := z
      have lm : met.length ≤ ns.length := BK.nodup_sub mi.nd ms
      refine ⟨_, rfl, _, rfl, D, _, rfl, .inl (SqL.of gG), _, _, rfl, rfl, _, rfl, ?_⟩
      refine ite2 (fun h => ?_) (fun h => ?_)
      · have h := of_decide_eq_true h
        rw [List.length_map] at h
        have hi : i < met.length := by omega
        have hx : met[i]? = some met[i] := List.getElem?_eq_getElem hi
        generalize met[i] = x at hx
        obtain ⟨kvs, hk, hb⟩ := bk.same eG
        refine ⟨_, rfl, .inl ⟨rfl, _, SqL.of gG⟩, _, rfl, b, rfl, .inl ⟨_, .of hk⟩, _, rfl, _, rfl, D, _, (i : Nat), .str x, rfl, rfl, SqL.of gG, atI_nat (by rw [List.getElem?_map, hx] <;> rfl), Nat.zero_le _, fun Tt nT => ?_⟩
        have eT : Same G (upd G Tt (.tup [])) := Same.new nT
        have gT : (upd G Tt (.tup [])) Tt = some (.tup []) := upd_same
        generalize upd G Tt (.tup []) = G2 at eT gT
        have gG2 := eT _ _ gG
        obtain ⟨ta, hv, gta⟩ : ∃ ta, (valV kvs (.inr x)).getD (.ref Tt) = .ref ta ∧ G2 ta = some (.tup ((scF sc x).map V.str)) := by
          have hbx := hb x
          unfold scF
          cases hsx : sc x with
          | none =>
            rw [hsx] at hbx
            have hbx : valV kvs (.inr x) = none := hbx
            exact ⟨Tt, by rw [hbx] <;> rfl, gT⟩
          | some es =>
            rw [hsx] at hbx
            obtain ⟨t, h1, h2⟩ := hbx
            exact ⟨t, by rw [h1] <;> rfl, eT _ _ h2⟩
        refine ⟨valV kvs (.inr x), .inl ⟨kvs, .inr x, .of (eT _ _ hk), rfl, rfl⟩, ta, hv, ⟨_, SqT.of gta⟩, fun B nB => ?_⟩
        have nds := bn.nd x
        have subs := bn.sub x
        have les : (scF sc x).length ≤ 100 := Nat.le_trans (BK.nodup_sub nds subs) few
        have mi2 := mi.next hx nds
        generalize scF sc x = es at gta nds subs les mi2
        refine lc_it (walk_tup (xs := es.map V.str)) (AccP B G2 (fun j => ((es.take j).filter fun y => !decide (y ∈ met)).map V.str)) (acc_start rfl) (fun j G' _ z => SqT.of (acc_same z (Same.refl G2) nB _ _ gta)) (fun j y G' G'' hj z w => ?_) (fun G' z => ?_)
        · obtain ⟨rfl, hw⟩ := w
          rw [List.getElem?_map] at hw
          obtain ⟨o, ho, rfl⟩ := Option.map_eq_some_iff.mp hw
          have es1 := acc_same z (Same.refl G2) nB
          have step : ((es.take (j + 1)).filter fun y => !decide (y ∈ met)) = ((es.take j).filter fun y => !decide (y ∈ met)) ++ (if o ∈ met then [] else [o]) := by
            rw [List.take_add_one, ho, List.filter_append]
            congr 1
            by_cases y : o ∈ met
            · rw [if_pos y]
              simp [y]
            · rw [if_neg y]
              simp [y]
          have ol : (((es.take j).filter fun y => !decide (y ∈ met)).map V.str).length < sizeLine := by
            have h1 : ((es.take j).filter fun y => !decide (y ∈ met)).length ≤ (es.take j).length := List.length_filter_le _ _
            rw [List.length_take] at h1
            rw [List.length_map, sizeLine_eq]
            omega
          refine ⟨rfl, _, rfl, _, rfl, D, _, rfl, .inl (SqL.of (es1 _ _ gG2)), rfl, flat_txt met, ?_⟩
          have ei : inV (.str o) (met.map V.str) = decide (o ∈ met) := inV_txt o met
          refine ⟨_, rfl, ?_⟩
          show (if (!inV (.str o) (met.map V.str)) = true then _ else _)
          rw [ei]
          refine ite2 (fun h => ?_) (fun h => ?_)
          · have hn : ¬ o ∈ met := fun y => by simp [y] at h
            rw [if_neg hn] at step
            exact ⟨_, rfl, acc_in z (Same.refl _) ol (by show (List.filter _ (es.take (j + 1))).map V.str = _; rw [step, List.map_append] <;> rfl)⟩
          · have hn : o ∈ met := Classical.byContradiction fun y => h (by simp [y])
            rw [if_pos hn, List.append_nil] at step
            exact acc_out z (Same.refl _) (by show (List.filter _ (es.take (j + 1))).map V.str = _; rw [step])
        · have gB : G' B = some (.lst ((es.filter fun y => !decide (y ∈ met)).map V.str)) := by
            have this : G' B = some (.lst (((es.take (es.map V.str).length).filter fun y => !decide (y ∈ met)).map V.str)) := z.2
            rw [List.length_map, List.take_length] at this
            exact this
          have es1 := acc_same z (Same.refl G2) nB
          have gD2 := es1 _ _ gG2
          have le2 : ((es.filter fun y => !decide (y ∈ met))).length ≤ es.length := List.length_filter_le _ _
          refine ⟨D, B, _, _, rfl, rfl, gD2, gB, by rw [List.length_map, List.length_map, sizeLine_eq]; omega, ?_⟩
          refine ⟨_, rfl, _, 1, rfl, rfl, ns.length - (i + 1), by omega, _, i + 1, rfl, fun b2 o eb => ?_, by rw [upd_same, List.map_append], mi2, fun y my => ?_, rfl⟩
          · rw [upd_ne (ne_of_none eb nD)]
            exact es1 _ _ (eT _ _ (eG _ _ eb))
          · rcases List.mem_append.mp my with m | m
            · exact ms y m
            · exact subs y (List.mem_filter.mp m).1
      · have hi : i = met.length := by
          have h2 := mi.le
          have : ¬ ((i : Nat) : Int) < ((met.map V.str).length : Nat) := fun y => h (decide_eq_true y)
          rw [List.length_map] at this
          omega
        rw [hi] at mi
        exact ⟨_, rfl, q G D met eG nD mi.all ms gG⟩
    · obtain ⟨x3, h3, x2, h2, p2, ys2, z2, ty2, i, j, z3, z4, c, z5, q⟩ := h
      exact ⟨x3, h3, x2, h2, p2, ys2, z2, ty2, i, j, z3, z4, c, z5, hq _ _ q⟩
end
end OB
namespace OB
open PySem PySem.Spec PyProof.Rows L2
abbrev sGoR : Stmt := top 42
/-- whether one comes from y by x -/
noncomputable def rB (sc : Str → List Str) (y x : Str) : Bool := @decide (BK.Rch sc y x) (Classical.propDecidable _)
theorem rB_iff {sc : Str → List Str} {y x : Str} : rB sc y x = true ↔ BK.Rch sc y x := @decide_eq_true_iff _ (Classical.propDecidable _)
def spGoR : Sp := fun vs H Q _ => ∃ (b : Addr) (ad : Str) (ns : List Str) (sc : Str → Option (List Str)), vs = [.ref b, .str ad] ∧ BookAt H b sc ∧ BookN ns sc ∧ ad ∈ ns ∧ ∀ H' c, Same H H' → (c = true ↔ BK.Round (scF sc) ad) → Q (.bl c) H'
theorem mid_tup {G : Hp} {kvs : List (Key × V)} {b Tt : Addr} {x : Str} {sc : Str → Option (List Str)} {R : Hp → Prop} (hk : G b = some (.dK kvs)) (hb : ∀ x, match sc x with
  | none => valV kvs (.inr x) = none
  | some es => ∃ t, valV kvs (.inr x) = some (.ref t) ∧ G t = some (.tup (es.map V.str))) (nT : G Tt = none)
    (q : ∀ G2 ta, Same G G2 → (valV kvs (.inr x)).getD (.ref Tt) = .ref ta → G2 ta = some (.tup ((scF sc x).map V.str)) → R G2) : R (upd G Tt (.tup [])) := by
  have hbx := hb x
  cases hsx : sc x with
  | none =>
    rw [hsx] at hbx
    have hbx : valV kvs (.inr x) = none := hbx
    exact q _ Tt (Same.new nT) (by rw [hbx] <;> rfl) (by rw [upd_same]; unfold scF; rw [hsx] <;> rfl)
  | some es =>
    rw [hsx] at hbx
    obtain ⟨t, h1, h2⟩ := hbx
    exact q _ t (Same.new nT) (by rw [h1] <;> rfl) (by unfold scF; rw [hsx]; exact Same.new nT _ _ h2)
section
variable {P : Program} {w : World} {K : PySem.W.Frag} {mg : Str → Option Value} {base : Heap}
theorem scGoR : FnScope ["book", "address", "here", "one"] ["book", "address"] (defScope sGoR) := ⟨rfl, rfl, rfl, by decide +kernel, rfl, by decide +kernel, by decide +kernel⟩
theorem ok_goR {f fR : Addr} {fd fdR : FuncData} (F : Fun K "_law_goes_round" "_law_goes_round" sGoR f fd) (an : mg "any" = none)
    (GR : FnOk P w K mg base CX0 1 fR fdR ["book", "address"] spCome) (gR : mg "_law_reach" = some (.ref fR)) (kR : PySem.W.keepIn K (.ref fR) = true) (bR : Binds K fdR ["book", "address"] []) : FnOk P w K mg base CX0 2 f fd ["book", "address"] spGoR := by
  refine F.ok scGoR (fun vs H Q E h => ?_) (fun cdv A outer s H vs Q E hr h => ?_)
  · obtain ⟨b, ad, ns, sc, rfl, _⟩ := h
    rfl
  · obtain ⟨b, ad, ns, sc, rfl, bk, bn, adn, q⟩ := h
    have nd := scGoR.nd
    have hun := hr.units
    refine ⟨_, pss_cons (ps_for PassesOwn.never rfl (pi_list (pe_call GR hr (by rfl) gR kR bR .nil pass0 (pa_cons (pv 0) (pa_cons (pv 1) pa_nil)))) (pg_name (i := 2) nd rfl (Or.inr rfl))
        (pss_one (ps_if (pt_val (pe_callB (cr_any rfl) (by rfl) an (by decide +kernel) (pa_cons (pe_lc (own := [("one", 3)]) (g := gName 3) (tt := tYes) rfl nd (pi_tup (pe_dget2 (Nat.lt_of_le_of_lt (Nat.add_le_add_left (by decide : 1 ≤ 64) _) hun) (pv 0) (pv 2) (pe_tup pa_nil) ⟨by rfl, by rfl, by rfl, by rfl⟩))
            (blkOk_by (N := ["book", "address", "here", "one"]) (sc := defScope sGoR) (by decide +kernel)) (fun _ _ _ _ _ => pg_name (i := 3) nd rfl (Or.inl rfl)) (fun _ _ _ _ _ => pts_nil) (fun _ _ _ _ _ => pe_cmpR (op_inK (K := K) rfl) (pv 2) (pe_call GR hr (by rfl) gR kR bR .nil pass0 (pa_cons (pv 0) (pa_cons (pv 3) pa_nil))) (by rfl))) pa_nil))) (pss_one (ps_ret pe_bl)) pss_nil)))
      (pss_one (ps_ret pe_bl)), ?_⟩
    refine ⟨_, rfl, _, rfl, b, ad, ns, sc, rfl, bk, bn, adn, fun H1 M met e1 nM ma ms gM => ?_⟩
    refine ⟨M, rfl, ⟨_, SqL.of gM⟩, ?_⟩
    refine for_it (walk_list (xs := met.map V.str)) (fun i σ G => (∃ o2 : Option V, σ = [some (.ref b), some (.str ad), o2, none]) ∧ Same H1 G ∧ ∀ j x, j < i → met[j]? = some x → ∀ y ∈ scF sc x, ¬ BK.Rch (scF sc) y x) ⟨⟨_, rfl⟩, Same.refl _, fun j x h => absurd h (Nat.not_lt_zero j)⟩
      (fun i σ G _ z => SqL.of (z.2.1 _ _ gM)) (fun i v σ G G' hi z y => ?_) (fun σ G z => ?_)
    · obtain ⟨⟨o2, rfl⟩, eG, no⟩ := z
      obtain ⟨rfl, hx⟩ := y
      rw [List.getElem?_map] at hx
      obtain ⟨x, hx2, rfl⟩ := Option.map_eq_some_iff.mp hx
      have e01 := e1.trans eG
      obtain ⟨kvs, hk, hb⟩ := bk.same e01
      dsimp only [gName]
      refine ⟨_, rfl, b, rfl, .inl ⟨_, .of hk⟩, _, rfl, Nat.zero_le _, fun Tt nT => ?_⟩
      have xn := ms x (List.mem_of_getElem? hx2)
      refine mid_tup (G := G') (x := x) (Tt := Tt) hk hb nT fun G2 ta e2 hv gta => ⟨valV kvs (.inr x), .inl ⟨kvs, .inr x, .of (e2 _ _ hk), rfl, rfl⟩, ta, hv, ⟨_, SqT.of gta⟩, fun B nB => ?_⟩
      have nds := bn.nd x
      have subs := bn.sub x
      have les : (scF sc x).length ≤ 100 := Nat.le_trans (BK.nodup_sub nds subs) bn.few
      have e02 := e01.trans e2
      have lm : (((scF sc x).map fun y => rB (scF sc) y x).map V.bl).length = ((scF sc x).map V.str).length := by simp
      refine lc_it (walk_tup (xs := (scF sc x).map V.str)) (AccP B G2 (mapTo (((scF sc x).map fun y => rB (scF sc) y x).map V.bl))) (acc_start rfl) (fun j G' _ z => SqT.of (acc_same z (Same.refl G2) nB _ _ gta)) (fun j v G' G'' hj z w => ?_) (fun G' z => ?_)
      · obtain ⟨rfl, hw⟩ := w
        rw [List.getElem?_map] at hw
        obtain ⟨o, ho, rfl⟩ := Option.map_eq_some_iff.mp hw
        have es1 := acc_same z (Same.refl G2) nB
        refine ⟨rfl, ?_⟩
        dsimp only [tYes]
        rw [if_pos rfl]
        refine ⟨_, rfl, _, rfl, _, rfl, b, o, ns, sc, rfl, bk.same (e02.trans es1), bn, subs o (List.mem_of_getElem? ho), fun H3 M2 met2 e3 nM2 ma2 ms2 gM2 => ⟨M2, _, rfl, .inl (SqL.of gM2), rfl, flat_txt met2, ?_⟩⟩
        have ei : inV (.str x) (met2.map V.str) = rB (scF sc) o x := by
          rw [inV_txt x met2, Bool.eq_iff_iff, rB_iff, ← ma2.iff x, decide_eq_true_iff]
        show ∃ a, _ ∧ _ ∧ _
        rw [ei]
        exact acc_in z e3 (mapTo_len (by rw [lm, List.length_map, sizeLine_eq]; omega)) (mapTo_succ (by rw [List.getElem?_map, List.getElem?_map, ho] <;> rfl))
      · have es1 := acc_same z (Same.refl G2) nB
        rw [← lm] at z
        have gB : G' B = some (.lst (((scF sc x).map fun y => rB (scF sc) y x).map V.bl)) := by rw [z.2, mapTo_all]
        refine ⟨B, _, rfl, SqL.of gB, _, rfl, ?_⟩
        cases hany : ((scF sc x).map fun y => rB (scF sc) y x).any id with
        | true =>
          refine iteT (q G' true (e02.trans es1) ⟨fun _ => ?_, fun _ => rfl⟩)
          obtain ⟨c, mc, hc⟩ := List.any_eq_true.mp hany
          obtain ⟨y, my, rfl⟩ := List.mem_map.mp mc
          exact ⟨x, y, (ma.iff x).mp (List.mem_of_getElem? hx2), my, rB_iff.mp hc⟩
        | false =>
          refine iteF ⟨⟨_, rfl⟩, eG.trans (e2.trans es1), fun j u hj hu y my hr2 => ?_⟩
          by_cases w : j = i
          · subst w
            rw [hx2] at hu
            obtain rfl := Option.some.inj hu
            have : ((scF sc x).map fun y => rB (scF sc) y x).any id = true := List.any_eq_true.mpr ⟨_, List.mem_map.mpr ⟨y, my, rfl⟩, rB_iff.mpr hr2⟩
            rw [hany] at this
            cases this
          · exact no j u (by omega) hu y my hr2
    · obtain ⟨⟨o2, rfl⟩, eG, no⟩ := z
      refine q G false (e1.trans eG) ⟨(by intro z; cases z), fun ⟨x, y, h1, h2, h3⟩ => ?_⟩
      exfalso
      have mx := (ma.iff x).mpr h1
      obtain ⟨j, hj, ej⟩ := List.mem_iff_getElem.mp mx
      exact no j x (by rw [List.length_map]; exact hj) (by rw [List.getElem?_eq_getElem hj, ej]) y h2 h3
end
end OB
/-! ### a dict of one entry, whatever its key -/
namespace OB
open PySem PySem.Spec PyProof.Rows L2
def OneD (a : Addr) (k v : Value) (h : Heap) : Prop := (a == sysModules) = false ∧ ∃ en ep, en.key = k ∧ en.val = v ∧ DT.Raw h a #[en] ep
theorem OneD.keep {a : Addr} {k v : Value} {h h' : Heap} (x : OneD a k v h) (q : ∀ o, h.get? a = some o → h'.get? a = some o) : OneD a k v h' := by
  obtain ⟨y, en, ep, e1, e2, r⟩ := x
  exact ⟨y, en, ep, e1, e2, r.at' q⟩
def oneO (a : Addr) (k v : Value) : HO := .ext (OneD a k v)
theorem oneO_ok {P : Program} {w : World} {H : Hp} {h : Heap} {a : Addr} {k v : Value} (x : OneD a k v h) : ObjOk P w H h a (oneO a k v) := by
  refine ⟨x, ?_, fun h1 h2 p q => p.keep q⟩
  obtain ⟨_, _, _, _, _, o, ho, _⟩ := x
  exact ⟨o, ho⟩
theorem oneD_cls {a : Addr} {k v : Value} : ∀ h : Heap, OneD a k v h → ∃ o, h.get? a = some o ∧ o.cls = .type "dict" := fun h x => by
  obtain ⟨_, _, _, _, _, o, ho, c, _⟩ := x
  exact ⟨o, ho, c.1⟩
/-- its one key -/
def Itk1 (d : Addr) (o : Obj) (u : HO) (k : V) : It := ⟨fun i H => H d = some (.frz o u) ∧ i < 1, fun _ H x H' => H' = H ∧ x = k, fun i H => H d = some (.frz o u) ∧ 1 ≤ i⟩
theorem walk_keys1 {d : Addr} {o : Obj} {u : HO} {k : V} : Walk (Itk1 d o u k) 1 (fun H => H d = some (.frz o u)) (fun _ H x H' => H' = H ∧ x = k) :=
  ⟨fun _ _ hi q => ⟨q, hi⟩, fun _ q => ⟨q, Nat.le_refl _⟩, fun _ _ _ _ _ _ y => y⟩
theorem turn_keys1 {P : Program} {w : World} {K : PySem.W.Frag} {tg : Expr} {d it : Addr} {o : Obj} {en : DictEntry} {ep : Nat} {k : V} {kv v : Value} (hod : o.data = .dict #[en] ep) (hk : en.key = kv) (rk : RelV k kv) :
    Turn P w K tg (Itk1 d o (oneO d kv v) k) [it] it (fun i h => h.IsKeyIter it d i 1 ep) where
  mem := List.mem_singleton.mpr rfl
  obj := fun i h st b hb => by
    obtain rfl : b = it := List.mem_singleton.mp hb
    obtain ⟨oi, e1, _, e2⟩ := st
    refine ⟨oi, e1, fun v z => ?_⟩
    rw [e2] at z
    cases z
  keep := fun i h h' st q => st.at fun oi e => q it (List.mem_singleton.mpr rfl) oi e
  item := by
    intro X hP hw hK hc i pins s σ H E I hf st hg
    subst hP hw hK
    have hgd : s.heap.get? d = some o := (I.hok d _ hg.1).1
    obtain ⟨f0, f1, f2, f3, f4, f5⟩ := hf it (List.mem_singleton.mpr rfl)
    have i0 : i = 0 := Nat.lt_one_iff.mp hg.2
    subst i0
    refine next_key_item (n := 1) (es := #[en]) (en := en) st hgd hod rfl rfl fun g st' sb => ?_
    have I1 : Inv X pins σ H { s with heap := g } := I.turned (t' := s.toks) (fun b ob hb e => (sb.2 b hb).trans e) f0 f1 f3 f4 f5
    obtain ⟨oi, e1, e2, e3⟩ := id st'
    exact ⟨en.key, rfl, go_of (s := { s with heap := g }) e1 e2 e3 (by decide) ⟨k, H, I1, by rw [hk]; exact rk, ⟨rfl, rfl⟩, st', fun b hb => (hf b hb).1⟩⟩
  done := by
    intro X hP hw hK hc i pins s σ H E I hf st hg
    subst hP hw hK
    have hgd : s.heap.get? d = some o := (I.hok d _ hg.1).1
    obtain ⟨f0, f1, f2, f3, f4, f5⟩ := hf it (List.mem_singleton.mpr rfl)
    exact next_key_end (n := 1) (es := #[en]) (I.ok.hd hc) st hgd hod rfl hg.2 fun g eb => ⟨rfl, I.turned (t' := s.toks) (fun b ob hb e => eb b ob hb e) f0 f1 f3 f4 f5⟩
  self := fun A i s Q E st h => wpAny_pyIter_keyiter st h
def iKeys1 (td : TE) : TI := fun σ H R => td σ H fun x H1 => ∃ d o k kv v, x = .ref d ∧ RelV k kv ∧ H1 d = some (.frz o (oneO d kv v)) ∧ R (Itk1 d o (oneO d kv v) k) H1
section
variable {X : Cx} {tg e : Expr} {td : TE} {apos cpos : Pos}
theorem pi_keys1 (he : PE X e td) : PI X tg e (iKeys1 td) := by
  refine ⟨fun pins s σ H R I h => ?_⟩
  refine thn (he.run pins s σ H _ I h) fun u s1 ⟨x, H1, I1, rx, d, o, k, kv, v, ex, rk, hd, q⟩ => ?_
  subst ex
  obtain rfl : u = Value.ref d := rx
  obtain ⟨hgd, ⟨hs, en, ep, ek, ev, ob, hb, hx, hdt⟩, _⟩ := I1.hok d _ hd
  rw [hgd] at hb
  cases hb
  exact iter_keys hs hgd hx hdt (pi_one (tk := s1.toks) I1 _ (turn_keys1 hdt ek rk) ⟨_, Heap.get?_push_size _ rfl, rfl, rfl⟩ q)
/-- either reading -/
theorem pi_either {a b : TI} (ha : PI X tg e a) (hb : PI X tg e b) : PI X tg e (fun σ H R => a σ H R ∨ b σ H R) := ⟨fun pins s σ H R I h => by
  rcases h with h | h
  · exact ha.run pins s σ H R I h
  · exact hb.run pins s σ H R I h⟩
theorem pe_either {a b : TE} (ha : PE X e a) (hb : PE X e b) : PE X e (fun σ H Q => a σ H Q ∨ b σ H Q) := ⟨fun pins s σ H Q I h => by
  rcases h with h | h
  · exact ha.run pins s σ H Q I h
  · exact hb.run pins s σ H Q I h⟩
end
/-- a dict that was locked and is let go -/
theorem lock_same {H G : Hp} {d : Addr} {u : HO} {od : Obj} (hd : H d = some u) (e : Same (upd H d (.frz od u)) G) : Same H (upd G d u) := fun c o ec => by
  by_cases z : c = d
  · subst z
    rw [hd] at ec
    rw [upd_same, ec]
  · rw [upd_ne z]
    exact e c o (by rw [upd_ne z]; exact ec)
end OB
namespace OB
open PySem PySem.Spec PyProof.Rows L2
/-! ### what is no land, what is no address -/
def Bad (E : XK) (H : Hp) (C : Addr) (f : Str) (v : V) : Prop := ∀ H' d, Same H H' → H d = none → H' d = some (.xd [(f, v)]) → E (.ref C) (some d) H'
theorem Bad.same {E : XK} {H H' : Hp} {C : Addr} {f : Str} {v : V} (h : Bad E H C f v) (e : Same H H') : Bad E H' C f v := fun G d e2 n g => h G d (e.trans e2) (e.free n) g
theorem Bad.raise {E : XK} {H : Hp} {C : Addr} {f : Str} {v : V} (h : Bad E H C f v) : ∀ d, H d = none → E (.ref C) (some d) (upd H d (.xd [(f, v)])) := fun d n => h _ d (Same.new n) n upd_same
/-- what the class of lands says -/
structure LandM (P : Program) (w : World) (K : PySem.W.Frag) (mg : Str → Option Value) (base : Heap) (C fA : Addr) (fdA : FuncData) : Prop where
  gC : mg "Land" = some (.ref C)
  LC : LandC K C
  own : OwnC K C
  kit : PySem.W.kitOne K (.ref C) (.ref C) = some true
  kf : ∀ T ∈ ["NoneType", "list"], PySem.W.kitOne K (.type T) (.ref C) = some false
  mA : Meth K C "addresses" fA
  GA : FnOk P w K mg base CX0 1 fA fdA ["self"] (spLandAdr C)
  bA : Binds K fdA ["self"] []
theorem tyA_ins {K : PySem.W.Frag} {H : Hp} {a C dx : Addr} {fs : List (Str × V)} (e : H a = some (.ins C dx fs)) (o : OwnC K C) : TyA K H (.ref a) (.ref C) := .x (.base (.ins e o.cl o.ha o.hn o.htk o.hm))
/-- whether a thing is a land -/
def LandQ (K : PySem.W.Frag) (C : Addr) (H : Hp) (v : V) (b : Bool) : Prop := ∃ t, TyA K H v t ∧ PySem.W.kitOne K t (.ref C) = some b
def spCkLand (K : PySem.W.Frag) (C CB : Addr) : Sp := fun vs H Q E => ∃ (v : V) (b : Bool), vs = [v] ∧ LandQ K C H v b ∧ (b = false → Bad E H CB "thing" v) ∧ (b = true → Q .non H)
def spCkAdr (K : PySem.W.Frag) (C CN : Addr) : Sp := fun vs H Q E => ∃ (l : Addr) (ns : List Str) (m : Int) (v : V) (k : Kd), vs = [.ref l, v] ∧ LandAt H C l (ns.map V.str) m ∧ Any K H v k ∧ (wordIn ns v = false → Bad E H CN "address" v) ∧ (wordIn ns v = true → ∀ H', Same H H' → Q .non H')
section
variable {P : Program} {w : World} {K : PySem.W.Frag} {mg : Str → Option Value} {base : Heap}
theorem LandM.is {C fA : Addr} {fdA : FuncData} (L : LandM P w K mg base C fA fdA) {H : Hp} {l : Addr} {xs : List V} {m : Int} (h : LandAt H C l xs m) : LandQ K C H (.ref l) true := by
  obtain ⟨dx, T, h1, h2⟩ := h
  exact ⟨_, tyA_ins h1 L.own, L.kit⟩
theorem LandM.non {C fA : Addr} {fdA : FuncData} (L : LandM P w K mg base C fA fdA) {H : Hp} : LandQ K C H .non false := ⟨_, .x (.base .non), L.kf _ (by simp)⟩
theorem LandM.lst {C fA : Addr} {fdA : FuncData} (L : LandM P w K mg base C fA fdA) {H : Hp} {a : Addr} {xs : List V} (h : H a = some (.lst xs)) : LandQ K C H (.ref a) false := ⟨_, .x (.base (.lst h)), L.kf _ (by simp)⟩
theorem scCkLand : FnScope ["thing"] ["thing"] (defScope sCkLand) := ⟨rfl, rfl, rfl, by decide +kernel, rfl, by decide +kernel, by decide +kernel⟩
theorem ok_ckLand {f C CB fI : Addr} {fd : FuncData} (F : Fun K "check_land" "check_land" sCkLand f fd) (T : TxtC mg) (gC : mg "Land" = some (.ref C)) (EB : ErrK P K mg "BadLand" CB fI "thing") (htop : (P.main.scope.names.lookup ("super" : Str)).isSome = false) : FnOk P w K mg base (L2.CX P w) 2 f fd ["thing"] (spCkLand K C CB) := by
  refine F.okX scCkLand (fun vs H Q E h => ?_) (fun cdv A outer s H vs Q E hr h => ?_)
  · obtain ⟨v, b, rfl, _⟩ := h
    rfl
  · obtain ⟨v, b, rfl, ⟨t, ty, kt⟩, hb, q⟩ := h
    refine ⟨_, pss_one (ps_if (pt_not (pt_val (pe_callB call_isA (by rfl) T.isi bootIsi (pa_cons (pv 0) (pa_cons (pe_glob (v := .ref C) (by rfl) gC rfl) pa_nil)))))
        (pss_one (ps_raise rfl (takes_of rfl rfl rfl rfl) (pmk_err EB.T EB.B hr htop (by rfl) EB.g EB.k EB.ex EB.ty (by exact (pa_cons (pv 0) pa_nil)) rfl))) pss_nil), ?_⟩
    refine ⟨_, rfl, v, .ref C, t, .ref C, b, rfl, .own C, ty, kt, b, rfl, ?_⟩
    cases b with
    | false => exact iteT ⟨_, rfl, _, rfl, fun d nd => (hb rfl).raise d nd⟩
    | true => exact iteF (q rfl)
theorem scCkAdr : FnScope ["land", "address"] ["land", "address"] (defScope sCkAdr) := ⟨rfl, rfl, rfl, by decide +kernel, rfl, by decide +kernel, by decide +kernel⟩
theorem ok_ckAdr {f C CN fI fA fW : Addr} {fd fdA fdW : FuncData} (F : Fun K "check_address" "check_address" sCkAdr f fd) (L : LandM P w K mg base C fA fdA)
    (GW : FnOk P w K mg base CX0 1 fW fdW ["words", "thing"] (spWord K)) (gW : mg "is_word_of" = some (.ref fW)) (kW : PySem.W.keepIn K (.ref fW) = true) (bW : Binds K fdW ["words", "thing"] [])
    (EN : ErrK P K mg "NoAddress" CN fI "address") (htop : (P.main.scope.names.lookup ("super" : Str)).isSome = false) : FnOk P w K mg base (L2.CX P w) 2 f fd ["land", "address"] (spCkAdr K C CN) := by
  refine F.okX scCkAdr (fun vs H Q E h => ?_) (fun cdv A outer s H vs Q E hr h => ?_)
  · obtain ⟨l, ns, m, v, k, rfl, _⟩ := h
    rfl
  · obtain ⟨l, ns, m, v, k, rfl, hl, av, hb, q⟩ := h
    refine ⟨_, pss_one (ps_if (pt_not (pt_val (pe_call GW hr (by rfl) gW kW bW .nil pass0 (pa_cons (pe_meth0 (pv 0) L.LC.cl L.mA L.GA hr L.bA .nil pass0) (pa_cons (pv 1) pa_nil)))))
        (pss_one (ps_raise rfl (takes_of rfl rfl rfl rfl) (pmk_err EN.T EN.B hr htop (by rfl) EN.g EN.k EN.ex EN.ty (by exact (pa_cons (pv 1) pa_nil)) rfl))) pss_nil), ?_⟩
    obtain ⟨dl, Tl, h1, h2⟩ := id hl
    refine ⟨_, rfl, l, dl, _, rfl, h1, by rfl, l, ns.map V.str, m, rfl, hl, fun H1 ad e1 nad gad => ⟨_, rfl, ad, ns, v, k, rfl, SqL.of gad, av.same e1, fun H2 e2 => ⟨_, rfl, ?_⟩⟩⟩
    cases hw : wordIn ns v with
    | false => exact iteT ⟨_, rfl, _, rfl, fun d nd => ((hb hw).same (e1.trans e2)).raise d nd⟩
    | true => exact iteF (q hw _ (e1.trans e2))
end
end OB
namespace OB
open PySem PySem.Spec PyProof.Rows L2
/-! ### the book that a dict tells -/
abbrev sBTold : Stmt := top 25
abbrev BkR := List (Key × Option (List V))
def lookK (rs : BkR) (k : Key) : Option (Option (List V)) := (rs.find? fun p => decide (p.1 = k)).map (·.2)
def keysIn (ns : List Str) (rs : BkR) : Bool := rs.all fun p => wordIn ns (kV p.1)
def entB (ns : List Str) (rs : BkR) (x : Str) : Bool := match lookK rs (.inr x) with
  | none => true
  | some r => match unlOf ns r with
    | none => false
    | some ss => !decide (x ∈ ss)
def scOf (ns : List Str) (rs : BkR) (x : Str) : Option (List Str) := (lookK rs (.inr x)).bind fun r => (unlOf ns r).map (ordL ns)
theorem entB_none {ns : List Str} {rs : BkR} {x : Str} (h : lookK rs (.inr x) = none) : entB ns rs x = true := by simp only [entB, h]
theorem entB_bad {ns : List Str} {rs : BkR} {x : Str} {r : Option (List V)} (h : lookK rs (.inr x) = some r) (u : unlOf ns r = none) : entB ns rs x = false := by simp only [entB, h, u]
theorem entB_some {ns : List Str} {rs : BkR} {x : Str} {r : Option (List V)} {ss : List Str} (h : lookK rs (.inr x) = some r) (u : unlOf ns r = some ss) : entB ns rs x = !decide (x ∈ ss) := by simp only [entB, h, u]
def bookOf (ns : List Str) (r : Option BkR) : Option (Str → Option (List Str)) := match r with
  | none => none
  | some rs => if keysIn ns rs = true ∧ ∀ x ∈ ns, entB ns rs x = true then some (fun x => if x ∈ ns then scOf ns rs x else none) else none
def shortK (k : Key) : Prop := match k with
  | .inl _ => True
  | .inr x => x.length ≤ 100
/-- any object that may tell a book -/
def BkW (K : PySem.W.Frag) (H : Hp) (v : V) (r : Option BkR) : Prop := match r with
  | none => (∃ k, Any K H v k ∧ k.isDct = false) ∨ ∃ (a : Addr) (k : V) (kd : Kd) (kv u : Value), v = .ref a ∧ H a = some (oneO a kv u) ∧ RelV k kv ∧ Any K H k kd ∧ kd.isStr = false ∧ kd.isDct = false
  | some rs => ∃ (a : Addr) (kvs : List (Key × V)), v = .ref a ∧ H a = some (.dK kvs) ∧ (∀ p ∈ kvs, shortK p.1) ∧ kvs.length < 1000 ∧ Paired (fun (p : Key × V) (q : Key × Option (List V)) => p.1 = q.1 ∧ ArgW K H p.2 q.2) kvs rs
theorem Paired.imp {α β : Type} {F G : α → β → Prop} (h : ∀ x y, F x y → G x y) : ∀ {xs : List α} {ys : List β}, Paired F xs ys → Paired G xs ys
  | _, _, .nil => .nil
  | _, _, .cons r t => .cons (h _ _ r) (Paired.imp h t)
theorem BkW.same {K : PySem.W.Frag} {H H' : Hp} {v : V} {r : Option BkR} (h : BkW K H v r) (e : Same H H') : BkW K H' v r := by
  cases r with
  | none =>
    rcases h with ⟨k, h1, h2⟩ | ⟨a, k, kd, kv, u, h1, h2, h3, h4, h5⟩
    · exact .inl ⟨k, h1.same e, h2⟩
    · exact .inr ⟨a, k, kd, kv, u, h1, e _ _ h2, h3, h4.same e, h5⟩
  | some rs =>
    obtain ⟨a, kvs, h1, h2, h3, h4, h5⟩ := h
    exact ⟨a, kvs, h1, e _ _ h2, h3, h4, Paired.imp (fun p q z => ⟨z.1, z.2.same e⟩) h5⟩
theorem word_no {K : PySem.W.Frag} {H : Hp} {v : V} {k : Kd} {ns : List Str} (a : Any K H v k) (h : k.isStr = false) : wordIn ns v = false := by
  cases a with
  | str x => cases h
  | _ => rfl
theorem key_any {K : PySem.W.Frag} {H : Hp} {k : Key} (h : shortK k) : ∃ kd, Any K H (kV k) kd := by
  cases k with
  | inl i => exact ⟨_, .int i⟩
  | inr x => exact ⟨_, .str h⟩
theorem look_val {K : PySem.W.Frag} {H : Hp} (k : Key) : ∀ {kvs : List (Key × V)} {rs : BkR}, Paired (fun (p : Key × V) (q : Key × Option (List V)) => p.1 = q.1 ∧ ArgW K H p.2 q.2) kvs rs →
    (valV kvs k = none ∧ lookK rs k = none) ∨ ∃ v r, valV kvs k = some v ∧ lookK rs k = some r ∧ ArgW K H v r
  | _, _, .nil => .inl ⟨rfl, rfl⟩
  | _, _, .cons (a := p) (b := q) h t => by
    by_cases e : p.1 = k
    · refine .inr ⟨p.2, q.2, valV_pos e, ?_, h.2⟩
      have e2 : q.1 = k := by rw [← h.1]; exact e
      simp [lookK, List.find?_cons, e2]
    · have e2 : ¬ q.1 = k := by rw [← h.1]; exact e
      have z : ∀ l : BkR, lookK (q :: l) k = lookK l k := fun l => by simp [lookK, List.find?_cons, e2]
      rw [valV_neg e, z]
      exact look_val k t
theorem keys_pair {K : PySem.W.Frag} {H : Hp} {ns : List Str} : ∀ {kvs : List (Key × V)} {rs : BkR}, Paired (fun (p : Key × V) (q : Key × Option (List V)) => p.1 = q.1 ∧ ArgW K H p.2 q.2) kvs rs → (kvs.map fun p => wordIn ns (kV p.1)).all id = keysIn ns rs
  | _, _, .nil => rfl
  | _, _, .cons (a := p) (b := q) h t => by
    have ih := keys_pair (ns := ns) t
    show (wordIn ns (kV p.1) && _) = (wordIn ns (kV q.1) && _)
    rw [h.1]
    exact congrArg _ ih
/-- what stands in the book that is made -/
def BkP (ns : List Str) (rs : BkR) (i : Nat) (kws : List (Key × V)) (G : Hp) : Prop := ∀ x : Str, match (if x ∈ ns.take i then scOf ns rs x else none) with
  | none => valV kws (.inr x) = none
  | some es => ∃ t, valV kws (.inr x) = some (.ref t) ∧ G t = some (.tup (es.map V.str))
theorem BkP.same {ns : List Str} {rs : BkR} {i : Nat} {kws : List (Key × V)} {G G' : Hp} (h : BkP ns rs i kws G) (e : Same G G') : BkP ns rs i kws G' := fun x => by
  have hx := h x
  generalize (if x ∈ ns.take i then scOf ns rs x else none) = o at hx ⊢
  cases o with
  | none => exact hx
  | some es =>
    obtain ⟨t, h1, h2⟩ := hx
    exact ⟨t, h1, e _ _ h2⟩
theorem BkP.put {ns : List Str} {rs : BkR} {i : Nat} {kws ls : List (Key × V)} {G : Hp} {B : Addr} {kvs : List (Key × V)} (h : BkP ns rs i kws G) (hB : G B = some (.dK kvs)) : BkP ns rs i kws (upd G B (.dK ls)) := fun x => by
  have hx := h x
  generalize (if x ∈ ns.take i then scOf ns rs x else none) = o at hx ⊢
  cases o with
  | none => exact hx
  | some es =>
    obtain ⟨t, h1, h2⟩ := hx
    exact ⟨t, h1, by rw [upd_ne (ne_of h2 hB (by intro z; cases z))]; exact h2⟩
theorem take_mem {ns : List Str} {i : Nat} {x y : Str} (hx : ns[i]? = some x) : y ∈ ns.take (i + 1) ↔ y ∈ ns.take i ∨ y = x := by
  rw [List.take_add_one, hx, List.mem_append]
  simp
theorem BkP.skip {ns : List Str} {rs : BkR} {i : Nat} {kws : List (Key × V)} {G : Hp} {x : Str} (h : BkP ns rs i kws G) (hx : ns[i]? = some x) (no : scOf ns rs x = none) : BkP ns rs (i + 1) kws G := fun y => by
  have hy := h y
  have e : (if y ∈ ns.take (i + 1) then scOf ns rs y else none) = (if y ∈ ns.take i then scOf ns rs y else none) := by
    by_cases z : y ∈ ns.take i
    · rw [if_pos z, if_pos ((take_mem hx).mpr (.inl z))]
    · rw [if_neg z]
      by_cases u : y = x
      · rw [u, no]
        exact ite_self _
      · rw [if_neg fun q => ((take_mem hx).mp q).elim z u]
  rw [e]
  exact hy
theorem BkP.next {ns : List Str} {rs : BkR} {i : Nat} {kws : List (Key × V)} {G : Hp} {x : Str} {es : List Str} {t : Addr} (h : BkP ns rs i kws G) (hx : ns[i]? = some x) (hs : scOf ns rs x = some es) (ht : G t = some (.tup (es.map V.str))) : BkP ns rs (i + 1) (putK kws (.inr x) (.ref t)) G := fun y => by
  by_cases u : y = x
  · subst u
    rw [if_pos ((take_mem hx).mpr (.inr rfl)), hs]
    refine ⟨t, ?_, ht⟩
    rw [valV_put, if_pos rfl]
  · have hy := h y
    have e : (if y ∈ ns.take (i + 1) then scOf ns rs y else none) = (if y ∈ ns.take i then scOf ns rs y else none) := by
      by_cases z : y ∈ ns.take i
      · rw [if_pos z, if_pos ((take_mem hx).mpr (.inl z))]
      · rw [if_neg z, if_neg fun q => ((take_mem hx).mp q).elim z u]
    rw [e]
    have k : valV (putK kws (.inr x) (.ref t)) (.inr y) = valV kws (.inr y) := by
      rw [valV_put, if_neg fun q => u (Sum.inr.inj q)]
    rw [k]
    exact hy
def spBTold (K : PySem.W.Frag) : Sp := fun vs H Q _ => ∃ (a : Addr) (ns : List Str) (v : V) (r : Option BkR), vs = [.ref a, v] ∧ H a = some (.lst (ns.map V.str)) ∧ ns.length ≤ 100 ∧ BkW K H v r ∧ (bookOf ns r = none → ∀ H', Same H H' → Q .non H') ∧ ∀ sc, bookOf ns r = some sc → ∀ H' b, Same H H' → H b = none → BookAt H' b sc → Q (.ref b) H'
section
variable {P : Program} {w : World} {K : PySem.W.Frag} {mg : Str → Option Value} {base : Heap}
theorem scBTold : FnScope ["names", "thing", "book", "name", "entry", "key"] ["names", "thing"] (defScope sBTold) := ⟨rfl, rfl, rfl, by decide +kernel, rfl, by decide +kernel, by decide +kernel⟩
theorem ok_bTold {f fW fU fO : Addr} {fd fdW fdU fdO : FuncData} (F : Fun K "book_told" "book_told" sBTold f fd) (T : TxtC mg) (di : mg "dict" = none)
    (GW : FnOk P w K mg base CX0 1 fW fdW ["words", "thing"] (spWord K)) (gW : mg "is_word_of" = some (.ref fW)) (kW : PySem.W.keepIn K (.ref fW) = true) (bW : Binds K fdW ["words", "thing"] [])
    (GU : FnOk P w K mg base CX0 2 fU fdU ["names", "thing"] (spUnl K)) (gU : mg "unlike_addresses" = some (.ref fU)) (kU : PySem.W.keepIn K (.ref fU) = true) (bU : Binds K fdU ["names", "thing"] [])
    (GO : FnOk P w K mg base CX0 1 fO fdO ["names", "addresses"] (spOrd K)) (gO : mg "in_order" = some (.ref fO)) (kO : PySem.W.keepIn K (.ref fO) = true) (bO : Binds K fdO ["names", "addresses"] []) : FnOk P w K mg base CX0 3 f fd ["names", "thing"] (spBTold K) := by
  refine F.ok scBTold (fun vs H Q E h => ?_) (fun cdv A outer s H vs Q E hr h => ?_)
  · obtain ⟨a, ns, v, r, rfl, _⟩ := h
    rfl
  · obtain ⟨a, ns, v, r, rfl, ha, few, bw, q1, q2⟩ := h
    have nd := scBTold.nd
    have hun := hr.units
    have hr1 := hr.mono (show 1 ≤ 2 by decide)
    refine ⟨_, pss_cons (ps_if (PW.pt (pw_or (pt_not (pt_val (pe_callB call_isA (by rfl) T.isi bootIsi (pa_cons (pv 1) (pa_cons (pe_bltn (v := .ty "dict") (u := .type "dict") (by rfl) di bDict rfl) pa_nil)))))
          (pw_or1 (pt_not (pt_val (pe_callB (cr_all rfl) (by rfl) T.all (by decide +kernel) (pa_cons (pe_lock (pe_lc (own := [("key", 5)]) (g := gName 5) (tt := tYes) rfl nd (pi_either (pi_keys (pv 1)) (pi_keys1 (pv 1))) (blkOk_by (N := ["names", "thing", "book", "name", "entry", "key"]) (sc := defScope sBTold) (by decide +kernel))
            (fun _ _ _ _ _ => pg_name (i := 5) nd rfl (Or.inl rfl)) (fun _ _ _ _ _ => pts_nil) (fun _ _ _ _ _ => pe_call GW hr1 (by rfl) gW kW bW .nil pass0 (pa_cons (pv 0) (pa_cons (pv 5) pa_nil))))) pa_nil))))))) (pss_one (ps_ret pe_non)) pss_nil)
      (pss_cons (ps_set (i := 2) nd rfl (Or.inl rfl) pe_dnewK)
      (pss_cons (ps_for PassesOwn.never rfl (pi_list (pv 0)) (pg_name (i := 3) nd rfl (Or.inl rfl))
        (pss_one (ps_if (pt_cmp (pc_din (Nat.lt_of_le_of_lt (Nat.add_le_add_left (by decide : 1 ≤ 64) _) hun) (pv 3) (pv 1)))
          (pss_cons (ps_set (i := 4) nd rfl (Or.inl rfl) (pe_call GU hr (by rfl) gU kU bU .nil pass0 (pa_cons (pv 0) (pa_cons (pe_dget (Nat.lt_of_le_of_lt (Nat.add_le_add_left (by decide : 1 ≤ 64) _) hun) (pv 1) (pv 3) (fun _ _ => rfl)) pa_nil))))
          (pss_cons (ps_if (PW.pt (pw_or (pt_cmpR op_isN (pv 4) pe_non (nomark _)) (pw_or1 (pt_cmpR (op_inK (K := K) rfl) (pv 3) (pv 4) (by rfl))))) (pss_one (ps_ret pe_non)) pss_nil)
          (pss_one (ps_dput (Nat.lt_of_le_of_lt (Nat.add_le_add_left (by decide : 1 ≤ 64) _) hun) (pv 2) (pv 3) (pe_call GO hr1 (by rfl) gO kO bO .nil pass0 (pa_cons (pv 0) (pa_cons (pv 4) pa_nil))) rfl)))) pss_nil)))
      (pss_one (ps_ret (pv 2))))), ?_⟩
    cases r with
    | none =>
      have q1 := q1 rfl
      rcases bw with ⟨k, av, hk⟩ | ⟨d, k, kd, kv, u, rfl, hd, rk, ak, hk, hk2⟩
      · obtain ⟨t, S⟩ := av.says
        refine ⟨_, rfl, v, .ty "dict", t, .type "dict", _, rfl, .ty _, S.ty, S.dict, _, rfl, ?_⟩
        rw [hk]
        exact iteT (q1 _ (Same.refl H))
      · obtain ⟨t, S⟩ := (Any.odt (K := K) hd oneD_cls).says
        refine ⟨_, rfl, .ref d, .ty "dict", t, .type "dict", _, rfl, .ty _, S.ty, S.dict, _, rfl, iteF ?_⟩
        refine ⟨d, oneO d kv u, hd, trivial, fun od => .inr ⟨_, rfl, d, od, k, kv, u, rfl, rk, upd_same, fun D nD => ?_⟩⟩
        have ad : a ≠ d := ne_of ha hd (by intro z; cases z)
        have ha1 : (upd H d (.frz od (oneO d kv u))) a = some (.lst (ns.map V.str)) := by rw [upd_ne ad]; exact ha
        have ak1 : Any K (upd H d (.frz od (oneO d kv u))) k kd := by
          cases ak with
          | non => exact .non
          | bl b => exact .bl b
          | int i => exact .int i
          | str h => exact .str h
          | lst z => exact .lst (by rw [upd_ne (ne_of z hd (by intro y; cases y))]; exact z)
          | tup z => exact .tup (by rw [upd_ne (ne_of z hd (by intro y; cases y))]; exact z)
          | dct z => exact .dct (by rw [upd_ne (ne_of z hd (by intro y; cases y))]; exact z)
          | @odt b φ z c =>
            cases hk2
          | fn e c => exact .fn e c
          | ins z o => exact .ins (by rw [upd_ne (ne_of z hd (by intro y; cases y))]; exact z) o
        have Dd : D ≠ d := (ne_of_none (o := .frz od (oneO d kv u)) upd_same nD).symm
        refine lc_it walk_keys1 (AccP D (upd H d (.frz od (oneO d kv u))) (mapTo [V.bl false])) (acc_start rfl) (fun i G _ z => z.1 d _ Dd.symm upd_same) (fun i x G G' hi z y => ?_) (fun G z => ?_)
        · obtain ⟨rfl, rfl⟩ := y
          have es := acc_same z (Same.refl _) nD
          refine ⟨rfl, ?_⟩
          dsimp only [tYes]
          rw [if_pos rfl]
          refine ⟨_, rfl, _, rfl, a, ns, x, kd, rfl, SqL.of (es _ _ ha1), ak1.same es, fun G2 e2 => ?_⟩
          rw [word_no ak hk]
          have i0 : i = 0 := by omega
          exact acc_in z e2 (mapTo_len (by rw [sizeLine_eq]; decide)) (mapTo_succ (by rw [i0] <;> rfl))
        · have es := acc_same z (Same.refl _) nD
          have gD : G D = some (.lst [V.bl false]) := z.2
          refine ⟨es _ _ upd_same, D, [false], rfl, SqL.of (by rw [upd_ne Dd]; exact gD), _, rfl, ?_⟩
          exact iteT (q1 _ (lock_same hd es))
    | some rs =>
      obtain ⟨d, kvs, rfl, hd, sh, lk, pr⟩ := bw
      obtain ⟨t, S⟩ := (Any.dct (K := K) hd).says
      refine ⟨_, rfl, .ref d, .ty "dict", t, .type "dict", _, rfl, .ty _, S.ty, S.dict, _, rfl, iteF ?_⟩
      refine ⟨d, .dK kvs, hd, trivial, fun od => .inl ⟨_, rfl, d, od, rfl, .inl ⟨kvs, upd_same, fun D nD => ?_⟩⟩⟩
      have ad : a ≠ d := ne_of ha hd (by intro z; cases z)
      have ha1 : (upd H d (.frz od (.dK kvs))) a = some (.lst (ns.map V.str)) := by rw [upd_ne ad]; exact ha
      have Dd : D ≠ d := (ne_of_none (o := .frz od (.dK kvs)) upd_same nD).symm
      have lm : ((kvs.map fun p => wordIn ns (kV p.1)).map V.bl).length = kvs.length := by simp
      refine lc_it walk_keys (AccP D (upd H d (.frz od (.dK kvs))) (mapTo ((kvs.map fun p => wordIn ns (kV p.1)).map V.bl))) (acc_start rfl) (fun i G _ z => z.1 d _ Dd.symm upd_same) (fun i x G G' hi z y => ?_) (fun G z => ?_)
      · obtain ⟨rfl, k, u, hku, rfl⟩ := y
        have es := acc_same z (Same.refl _) nD
        obtain ⟨kd, ak⟩ := key_any (K := K) (H := G') (sh _ (List.mem_of_getElem? hku))
        refine ⟨rfl, ?_⟩
        dsimp only [tYes]
        rw [if_pos rfl]
        refine ⟨_, rfl, _, rfl, a, ns, kV k, kd, rfl, SqL.of (es _ _ ha1), ak, fun G2 e2 => ?_⟩
        exact acc_in z e2 (mapTo_len (by rw [lm, sizeLine_eq]; omega)) (mapTo_succ (by rw [List.getElem?_map, List.getElem?_map, hku] <;> rfl))
      have es := acc_same z (Same.refl _) nD
      rw [← lm] at z
      have gD : G D = some (.lst ((kvs.map fun p => wordIn ns (kV p.1)).map V.bl)) := by rw [z.2, mapTo_all]
      refine ⟨es _ _ upd_same, D, _, rfl, SqL.of (by rw [upd_ne Dd]; exact gD), _, rfl, ?_⟩
      have e1 := lock_same hd es
      rw [keys_pair pr]
      show (if (!keysIn ns rs) = true then _ else _)
      generalize upd G d (.dK kvs) = H1 at e1 ⊢
      cases hk : keysIn ns rs with
      | false => exact iteT (q1 (if_neg fun z => by rw [hk] at z; cases z.1) _ e1)
      | true =>
        refine iteF fun B nB => ?_
        have e2 : Same H (upd H1 B (.dK [])) := e1.trans (Same.new nB)
        have gB : (upd H1 B (.dK [])) B = some (.dK []) := upd_same
        have nBH : H B = none := e1.free nB
        show tSeq _ _ _ _ (upd H1 B (.dK []))
        generalize upd H1 B (.dK []) = H2 at e2 gB ⊢
        refine ⟨_, rfl, a, rfl, ⟨_, SqL.of (e2 _ _ ha)⟩, ?_⟩
        refine for_it (walk_list (xs := ns.map V.str)) (fun i σ G => (∃ o4 o5 : Option V, σ = [some (.ref a), some (.ref d), some (.ref B), o4, o5, none]) ∧ Same H G ∧ (∃ kws, G B = some (.dK kws) ∧ kws.length ≤ i ∧ BkP ns rs i kws G) ∧ ∀ x ∈ ns.take i, entB ns rs x = true)
          ⟨⟨_, _, rfl⟩, e2, ⟨[], gB, Nat.le_refl _, fun x => by rw [if_neg (by simp)] <;> rfl⟩, fun x m => by simp at m⟩ (fun i σ G _ z => SqL.of (z.2.1 _ _ ha)) (fun i v σ G G' hi z y => ?_) (fun σ G z => ?_)
        · obtain ⟨⟨o4, o5, rfl⟩, eG, ⟨kws, hB, lw, bp⟩, all⟩ := z
          obtain ⟨rfl, hx⟩ := y
          rw [List.getElem?_map] at hx
          obtain ⟨x, hx2, rfl⟩ := Option.map_eq_some_iff.mp hx
          have xm : x ∈ ns := List.mem_of_getElem? hx2
          have li : i < ns.length := (List.getElem?_eq_some_iff.mp hx2).1
          dsimp only [gName]
          refine ⟨_, rfl, _, rfl, d, _, rfl, DGet.k (k := Sum.inr x) (eG _ _ hd), _, rfl, ?_⟩
          rcases look_val (.inr x) pr with ⟨v1, v2⟩ | ⟨u, r, v1, v2, aw⟩
          · rw [v1]
            have no : scOf ns rs x = none := by unfold scOf; rw [v2] <;> rfl
            have ok : entB ns rs x = true := entB_none v2
            refine iteF ⟨⟨_, _, rfl⟩, eG, ⟨kws, hB, Nat.le_succ_of_le lw, bp.skip hx2 no⟩, fun y m => ?_⟩
            rcases (take_mem hx2).mp m with m | rfl
            · exact all y m
            · exact ok
          · rw [v1]
            refine iteT ⟨_, rfl, _, rfl, _, rfl, d, _, rfl, (by have z := DGet.k (k := Sum.inr x) (eG _ _ hd); rw [v1] at z; exact z), a, ns, u, r, rfl, SqL.of (eG _ _ ha), aw.same eG, fun un H3 e3 => ?_, fun ss un H3 T e3 gT => ?_⟩
            · have bad : entB ns rs x = false := entB_bad v2 un
              refine ⟨_, rfl, rfl, _, rfl, iteT (q1 (if_neg fun z => ?_) _ (eG.trans e3))⟩
              rw [z.2 x xm] at bad
              cases bad
            · refine ⟨_, rfl, rfl, _, rfl, ?_⟩
              refine iteF ⟨_, rfl, _, rfl, T, _, rfl, .inr (SqT.of gT), rfl, flat_txt ss, _, rfl, ?_⟩
              show (if inV (.str x) (ss.map V.str) = true then _ else _)
              rw [inV_txt]
              refine ite2 (fun h => ?_) (fun h => ?_)
              · have bad : entB ns rs x = false := by rw [entB_some v2 un, h] <;> rfl
                refine q1 (if_neg fun z => ?_) _ (eG.trans e3)
                rw [z.2 x xm] at bad
                cases bad
              · have ok : entB ns rs x = true := by rw [entB_some v2 un, decide_eq_false fun y => h (decide_eq_true y)] <;> rfl
                have yes : scOf ns rs x = some (ordL ns ss) := by
                  unfold scOf
                  rw [v2, Option.bind_some, un] <;> rfl
                have hB3 := e3 _ _ hB
                refine ⟨_, rfl, _, rfl, a, T, true, ns, ss, rfl, SqL.of (e3 _ _ (eG _ _ ha)), SqT.of gT, by omega, fun H4 t e4 nt gt => ?_⟩
                have hB4 := e4 _ _ hB3
                have e04 := (eG.trans e3).trans e4
                refine ⟨_, rfl, _, rfl, _, _, rfl, DPut.k (k := Sum.inr x) hB4 (by rw [sizeLine_eq]; omega), ⟨_, _, rfl⟩, fun c o ec => ?_, ⟨_, upd_same, ?_, ?_⟩, fun y m => ?_⟩
                · rw [upd_ne (ne_of_none ec nBH)]
                  exact e04 _ _ ec
                · have := length_putK kws (.inr x) (.ref t)
                  omega
                · exact (((bp.same e3).same e4).next hx2 yes gt).put hB4
                · rcases (take_mem hx2).mp m with m | rfl
                  · exact all y m
                  · exact ok
        · obtain ⟨⟨o4, o5, rfl⟩, eG, ⟨kws, hB, lw, bp⟩, all⟩ := z
          rw [List.length_map] at bp all
          have tk : ns.take ns.length = ns := List.take_length ..
          rw [tk] at all
          refine ⟨_, rfl, q2 _ (if_pos ⟨hk, all⟩) _ B eG nBH ⟨kws, hB, fun x => ?_⟩⟩
          have hx := bp x
          rw [tk] at hx
          exact hx
end
end OB
namespace OB
open PySem PySem.Spec PyProof.Rows L2
/-! ### a ring among some addresses -/
abbrev sRing : Stmt := top 28
abbrev sArr : Stmt := top 29
def Nring : List Str := ["book", "addresses", "inner", "outer", "way", "step", "address", "other"]
def scIn : Scope := { kind := .function, names := [(".0", .local), ("address", .local), ("any", .globalImplicit), ("book", .cell), ("outer", .cell)], isGenerator := false, isCoroutine := false }
def LayN (ns : List Str) : Prop := ∀ s ∈ ns, PyData.canLay0 (.str s) = true
/-- those with an entry -/
def inB (sc : Str → Option (List Str)) (x : Str) : Bool := (sc x).isSome
def ringOf (sc : Str → Option (List Str)) (met : List Str) : Option (List Str) := BK.ringL (scF sc) (met.filter (inB sc))
def spRing : Sp := fun vs H Q _ => ∃ (b M : Addr) (ns met : List Str) (sc : Str → Option (List Str)), vs = [.ref b, .ref M] ∧ BookAt H b sc ∧ BookN ns sc ∧ LayN ns ∧ H M = some (.lst (met.map V.str)) ∧ met.Nodup ∧ (∀ x ∈ met, x ∈ ns) ∧
  (ringOf sc met = none → ∀ H', Same H H' → Q .non H') ∧ ∀ rs, ringOf sc met = some rs → ∀ H' D, Same H H' → H D = none → H' D = some (.lst (rs.map V.str)) → Q (.ref D) H'
theorem BookAt.val {H : Hp} {b : Addr} {sc : Str → Option (List Str)} (h : BookAt H b sc) : ∃ kvs, H b = some (.dK kvs) ∧ ∀ x, (valV kvs (.inr x)).isSome = inB sc x ∧ (inB sc x = true → ∃ t, valV kvs (.inr x) = some (.ref t) ∧ H t = some (.tup ((scF sc x).map V.str))) := by
  obtain ⟨kvs, h1, h2⟩ := h
  refine ⟨kvs, h1, fun x => ?_⟩
  have hx := h2 x
  unfold inB scF
  cases e : sc x with
  | none =>
    rw [e] at hx
    have hx : valV kvs (.inr x) = none := hx
    rw [hx]
    exact ⟨rfl, fun z => by cases z⟩
  | some es =>
    rw [e] at hx
    obtain ⟨t, a1, a2⟩ := hx
    rw [a1]
    exact ⟨rfl, fun _ => ⟨t, rfl, a2⟩⟩
theorem eqv_list (ss ts : List Str) : PyData.eqv (.list (ss.map PyData.str)) (.list (ts.map PyData.str)) = decide (ss = ts) := eqv_txt ss ts
theorem shaped_list (ss : List Str) (h : ∀ s ∈ ss, PyData.canLay0 (.str s) = true) : SeqAt.shaped (.list (ss.map PyData.str)) = true := by
  show (PyData.canLayAll0 (ss.map PyData.str) && decide (PyData.depthAll (ss.map PyData.str) + 1 ≤ 64)) = true
  rw [lay_txt ss h, depth_txt] <;> rfl
theorem prune_step {sc : Str → List Str} {xs : List Str} {i : Nat} {x : Str} (h : xs[i]? = some x) : ((xs.take (i + 1)).filter fun x => (sc x).any fun y => decide (y ∈ xs)) = ((xs.take i).filter fun x => (sc x).any fun y => decide (y ∈ xs)) ++ (if (sc x).any (fun y => decide (y ∈ xs)) = true then [x] else []) := by
  rw [List.take_add_one, h, List.filter_append]
  congr 1
  by_cases z : (sc x).any (fun y => decide (y ∈ xs)) = true
  · rw [if_pos z]
    simp [z]
  · rw [if_neg z]
    simp [z]
theorem filt_step {p : Str → Bool} {xs : List Str} {i : Nat} {x : Str} (h : xs[i]? = some x) : (xs.take (i + 1)).filter p = (xs.take i).filter p ++ (if p x = true then [x] else []) := by
  rw [List.take_add_one, h, List.filter_append]
  congr 1
  by_cases z : p x = true
  · rw [if_pos z]
    simp [z]
  · rw [if_neg z]
    simp [z]
theorem filt_len {p : Str → Bool} {xs : List Str} {i : Nat} (l : xs.length ≤ 1000) : (((xs.take i).filter p).map V.str).length < sizeLine := by
  have h1 : ((xs.take i).filter p).length ≤ (xs.take i).length := List.length_filter_le _ _
  rw [List.length_take] at h1
  rw [List.length_map, sizeLine_eq]
  omega
theorem cut_to (xs : List V) (i : Nat) (h : i ≤ xs.length) : cutV xs none (some (i : Int)) = xs.take i := by
  unfold cutV
  rw [HT.sIx_nat, HT.sIx_none]
  have : min xs.length i = i ∨ min i xs.length = i := by omega
  simp [Nat.min_eq_left h]
theorem cut_from (xs : List V) (i : Nat) (h : i ≤ xs.length) : cutV xs (some (i : Int)) none = xs.drop i := by
  unfold cutV
  rw [HT.sIx_nat, HT.sIx_none, Nat.min_eq_left h]
  exact List.take_of_length_le (by rw [List.length_drop] <;> exact Nat.le_refl _)
theorem last_split {ws : List Str} (h : ws ≠ []) : ∃ r x, ws = r ++ [x] := ⟨ws.dropLast, ws.getLast h, (List.dropLast_concat_getLast h).symm⟩
theorem idx_first {ws : List Str} {y : Str} : ∀ (m : Nat) (z : Str), m < ws.idxOf y → ws[m]? = some z → z ≠ y := fun m z l e q => by
  subst q
  have hm : m < ws.length := (List.getElem?_eq_some_iff.mp e).1
  have h2 : ws[m] = z := (List.getElem?_eq_some_iff.mp e).2
  have := List.not_of_lt_findIdx (p := fun x => x == z) (xs := ws) (i := m) l
  rw [h2] at this
  simp at this
section
variable {P : Program} {w : World} {K : PySem.W.Frag} {mg : Str → Option Value} {base : Heap}
theorem scRing : FnScope Nring ["book", "addresses"] (defScope sRing) := ⟨rfl, rfl, rfl, by decide +kernel, rfl, by decide +kernel, by decide +kernel⟩
theorem ok_ring {f : Addr} {fd : FuncData} (F : Fun K "ring_among" "ring_among" sRing f fd) (an : mg "any" = none) : FnOk P w K mg base CX0 1 f fd ["book", "addresses"] spRing := by
  refine F.ok scRing (fun vs H Q E h => ?_) (fun cdv A outer s H vs Q E hr h => ?_)
  · obtain ⟨b, M, ns, met, sc, rfl, _⟩ := h
    rfl
  · obtain ⟨b, M, ns, met, sc, rfl, bk, bn, lay, gM, ndm, ms, q1, q2⟩ := h
    have nd := scRing.nd
    have hun := hr.units
    refine ⟨_, pss_cons (ps_set (i := 2) nd rfl (Or.inr rfl) (pe_lc (own := [("address", 6)]) (g := gName 6) (tt := tB (tDIn (tVar 6) (tVar 0))) rfl nd (pi_list (pv 1)) (blkOk_by (N := Nring) (sc := defScope sRing) (by decide +kernel)) (fun _ _ _ _ _ => pg_name (i := 6) nd rfl (Or.inl rfl))
          (fun _ _ _ _ _ => pts_one (pt_cmp (pc_din (Nat.lt_of_le_of_lt (Nat.add_le_add_left (by decide : 1 ≤ 64) _) hun) (pv 6) (pv 0)))) (fun _ _ _ _ _ => pv 6)))
      (pss_cons (ps_set (i := 3) nd rfl (Or.inr rfl) pe_non)
      (pss_cons (ps_while PassesOwn.never (pt_cmpR (op_neD hr.units) (pv 2) (pv 3) (nomark _))
        (pss_cons (ps_set (i := 3) nd rfl (Or.inr rfl) (pv 2))
        (pss_one (ps_set (i := 2) nd rfl (Or.inr rfl) (pe_lc (own := [("address", 6)]) (g := gName 6) rfl nd (pi_list (pv 3)) (blkOk_by (N := Nring) (sc := defScope sRing) (by decide +kernel)) (fun _ _ _ _ _ => pg_name (i := 6) nd rfl (Or.inl rfl))
          (tt := tTest (tCB (rAny K) (tCons (tLc (iTup K (tDGet (tVar 0) (tVar 6))) (gName 7) tYes (tOp (rIn K false) (tVar 7) (tVar 3)) [7]) tNil)))
          (fun s1 H1 C1 cl1 fp1 => pts_one (pt_val (pe_callB (cr_any rfl) (by rfl) an (by decide +kernel) (pa_cons (pe_lc (own := [("other", 7)]) (g := gName 7) (tt := tYes) (te := tOp (rIn K false) (tVar 7) (tVar 3)) rfl nd (pi_tup (pe_dget (Nat.lt_of_le_of_lt (Nat.add_le_add_left (by decide : 1 ≤ 64) _) hun) (pv 0) (pv 6) (fun _ _ => rfl)))
            (blkOk_by (N := Nring) (sc := scIn) (by decide +kernel)) (fun _ _ _ _ _ => pg_name (i := 7) nd rfl (Or.inl rfl)) (fun _ _ _ _ _ => pts_nil) (fun _ _ _ _ _ => pe_cmpR (op_inK (K := K) rfl) (pv 7) (pv 3) (by rfl))) pa_nil)))) (fun _ _ _ _ _ => pv 6))))))
      (pss_cons (ps_if (pt_not (pt_truth (pv 2) (by intro _; rfl))) (pss_one (ps_ret pe_non)) pss_nil)
      (pss_cons (ps_set (i := 4) nd rfl (Or.inl rfl) (pe_slice sl_list (pv 2) po_none (po_some pe_int)))
      (pss_one (ps_while PassesOwn.never (pt_val pe_bl)
        (pss_cons (ps_set (i := 5) nd rfl (Or.inl rfl) (pe_ix ix_list (pe_lc (own := [("other", 7)]) (g := gName 7) (tt := tTest (tOp (rIn K false) (tVar 7) (tVar 2))) rfl nd (pi_tup (pe_dget (Nat.lt_of_le_of_lt (Nat.add_le_add_left (by decide : 1 ≤ 64) _) hun) (pv 0) (pe_ix ix_list (pv 4) (pe_un un_neg pe_int) (fun _ _ => rfl)) (fun _ _ => rfl)))
            (blkOk_by (N := Nring) (sc := defScope sRing) (by decide +kernel)) (fun _ _ _ _ _ => pg_name (i := 7) nd rfl (Or.inl rfl)) (fun _ _ _ _ _ => pts_one (pt_cmpR (op_inK (K := K) rfl) (pv 7) (pv 2) (by rfl))) (fun _ _ _ _ _ => pv 7)) pe_int (fun _ _ => rfl)))
        (pss_cons (ps_if (pt_cmpR op_in_seq (pv 5) (pv 4) (by rfl)) (pss_one (ps_ret (pe_slice sl_list (pv 4) (po_some (pe_bm PySem.F.plainAttrs_list PySem.F.slot_list_index PySem.F.type_list_index mt_index (pv 4) (pa_cons (pv 5) pa_nil))) po_none))) pss_nil)
        (pss_one (ps_expr (pe_bm PySem.F.plainAttrs_list PySem.F.slot_list_append PySem.F.type_list_append mt_append (pv 4) (pa_cons (pv 5) pa_nil)))))))))))), ?_⟩
    obtain ⟨kvs, hk, hv⟩ := bk.val
    have lmet : met.length ≤ 100 := Nat.le_trans (BK.nodup_sub ndm ms) bn.few
    refine ⟨_, rfl, M, rfl, ⟨_, SqL.of gM⟩, fun I0 nI0 => ?_⟩
    refine lc_it (walk_list (xs := met.map V.str)) (AccP I0 H (fun i => ((met.take i).filter (inB sc)).map V.str)) (acc_start rfl) (fun i G _ z => Same.seq (acc_same z (Same.refl H) nI0) (SqL.of gM)) (fun i x G G' hi z y => ?_) (fun G0 z => ?_)
    · obtain ⟨rfl, hx⟩ := y
      rw [List.getElem?_map] at hx
      obtain ⟨x, hx2, rfl⟩ := Option.map_eq_some_iff.mp hx
      have es := acc_same z (Same.refl H) nI0
      have step := filt_step (p := inB sc) hx2
      have ol := filt_len (p := inB sc) (i := i) (xs := met) (by omega)
      refine ⟨rfl, _, rfl, _, rfl, b, _, rfl, DGet.k (k := Sum.inr x) (es _ _ hk), _, rfl, ?_⟩
      rw [(hv x).1]
      refine ite2 (fun h => ?_) (fun h => ?_)
      · rw [if_pos h] at step
        exact ⟨_, rfl, acc_in z (Same.refl _) ol (by show (List.filter _ (met.take (i + 1))).map V.str = _; rw [step, List.map_append] <;> rfl)⟩
      · rw [if_neg h, List.append_nil] at step
        exact acc_out z (Same.refl _) (by show (List.filter _ (met.take (i + 1))).map V.str = _; rw [step])
    have gI0 : G0 I0 = some (.lst ((met.filter (inB sc)).map V.str)) := by
      have this : G0 I0 = some (.lst (((met.take (met.map V.str).length).filter (inB sc)).map V.str)) := z.2
      rw [List.length_map, List.take_length] at this
      exact this
    have e1 : Same H G0 := acc_same z (Same.refl H) nI0
    clear z
    have x0n : ∀ x ∈ met.filter (inB sc), x ∈ ns := fun x m => ms x (List.mem_filter.mp m).1
    have x0b : ∀ x ∈ met.filter (inB sc), inB sc x = true := fun x m => (List.mem_filter.mp m).2
    have x0l : (met.filter (inB sc)).length ≤ 100 := Nat.le_trans (List.length_filter_le _ _) lmet
    unfold ringOf at q1 q2
    generalize met.filter (inB sc) = xs0 at gI0 x0n x0b x0l q1 q2
    refine while_go (fun mm σ G => ∃ (I : Addr) (inner : List Str) (ov : V), σ = [some (.ref b), some (.ref M), some (.ref I), some ov, none, none, none, none] ∧ Same H G ∧ H I = none ∧ G I = some (.lst (inner.map V.str)) ∧ (∀ x ∈ inner, x ∈ ns) ∧ (∀ x ∈ inner, inB sc x = true) ∧ inner.length ≤ 100 ∧
        ((ov = .non ∧ inner = xs0 ∧ mm = xs0.length + 1) ∨ ∃ (O : Addr) (o : List Str), ov = .ref O ∧ G O = some (.lst (o.map V.str)) ∧ (∀ x ∈ o, x ∈ ns) ∧ inner = BK.prune (scF sc) o ∧ BK.narrowL (scF sc) o = BK.narrowL (scF sc) xs0 ∧ mm = o.length))
      ⟨_, I0, xs0, .non, rfl, e1, nI0, gI0, x0n, x0b, x0l, .inl ⟨rfl, rfl, rfl⟩⟩ (fun mm σ G z => ?_) (fun σ G Q Q' hq h => ?_)
    · obtain ⟨I, inner, ov, rfl, eG, nI, gI, inn, inb, il, ho⟩ := z
      clear gI0 x0n x0b x0l e1 nI0
      have tst : ∃ d e, Dp K G (.ref I) d ∧ Dp K G ov e ∧ SeqAt.shaped d = true ∧ SeqAt.shaped e = true ∧ ∃ c, (!PyData.eqv d e) = c ∧ (c = true → BK.narrowL (scF sc) inner = BK.narrowL (scF sc) xs0 ∧ inner.length < mm) ∧ (c = false → BK.narrowL (scF sc) xs0 = inner) := by
        have li : ∀ s ∈ inner, PyData.canLay0 (.str s) = true := fun s m => lay s (inn s m)
        rcases ho with ⟨rfl, hx, hm⟩ | ⟨O, o, rfl, gO, on, hx, hn, hm⟩
        · exact ⟨_, _, .lst (SqL.of gI) (dp_txt inner), .non, shaped_list _ li, rfl, true, rfl, fun _ => ⟨by rw [hx], by rw [hm, hx]; omega⟩, fun z => by cases z⟩
        · refine ⟨_, _, .lst (SqL.of gI) (dp_txt inner), .lst (SqL.of gO) (dp_txt o), shaped_list _ li, shaped_list _ fun s m => lay s (on s m), _, rfl, ?_⟩
          rw [eqv_list]
          by_cases z : inner = o
          · rw [decide_eq_true z]
            exact ⟨(fun y => by cases y), fun _ => by rw [← hn, BK.narrowL_end (by rw [← hx]; exact z), z]⟩
          · rw [decide_eq_false z]
            have z2 : BK.prune (scF sc) o ≠ o := by rw [← hx]; exact z
            exact ⟨fun _ => ⟨by rw [hx, ← BK.narrowL_step z2, hn], by rw [hx, hm]; exact BK.prune_less z2⟩, (fun y => by cases y)⟩
      obtain ⟨d1, d2, t1, t2, t3, t4, c, t5, h1, h2⟩ := tst
      refine ⟨_, rfl, _, rfl, d1, d2, t1, t2, t3, t4, c, congrArg V.bl t5, ?_⟩
      clear t1 t2 t3 t4 t5 ho
      cases c with
      | true =>
        obtain ⟨hn, lt⟩ := h1 rfl
        clear h1 h2
        rw [if_pos rfl]
        refine ⟨_, rfl, _, rfl, I, rfl, ⟨_, SqL.of gI⟩, fun D nD => ?_⟩
        refine lc_it (walk_list (xs := inner.map V.str)) (AccP D G (fun i => ((inner.take i).filter fun x => (scF sc x).any fun y => decide (y ∈ inner)).map V.str)) (acc_start rfl) (fun i G' _ z => Same.seq (acc_same z (Same.refl G) nD) (SqL.of gI)) (fun i x G' G'' hi z y => ?_) (fun G' z => ?_)
        · obtain ⟨rfl, hx⟩ := y
          rw [List.getElem?_map] at hx
          obtain ⟨x, hx2, rfl⟩ := Option.map_eq_some_iff.mp hx
          have xm : x ∈ inner := List.mem_of_getElem? hx2
          have es := acc_same z (Same.refl G) nD
          have step := prune_step (sc := scF sc) hx2
          have ol := filt_len (p := fun x => (scF sc x).any fun y => decide (y ∈ inner)) (i := i) (xs := inner) (by omega)
          obtain ⟨ta, hta, gta⟩ := (hv x).2 (inb x xm)
          have hkG := es _ _ (eG _ _ hk)
          have gtG := es _ _ (eG _ _ gta)
          have gIG := es _ _ gI
          refine ⟨rfl, _, rfl, _, rfl, b, _, rfl, (by have q := DGet.k (k := Sum.inr x) hkG; rw [hta] at q; exact q), ta, rfl, ⟨_, SqT.of gtG⟩, fun B nB => ?_⟩
          have les : (scF sc x).length ≤ 100 := Nat.le_trans (BK.nodup_sub (bn.nd x) (bn.sub x)) bn.few
          have lm : (((scF sc x).map fun y => decide (y ∈ inner)).map V.bl).length = ((scF sc x).map V.str).length := by simp
          refine lc_it (walk_tup (xs := (scF sc x).map V.str)) (AccP B G'' (mapTo (((scF sc x).map fun y => decide (y ∈ inner)).map V.bl))) (acc_start rfl) (fun j G3 _ z => SqT.of (acc_same z (Same.refl G'') nB _ _ gtG)) (fun j v G3 G4 hj z w => ?_) (fun G3 z2 => ?_)
          · obtain ⟨rfl, hw⟩ := w
            rw [List.getElem?_map] at hw
            obtain ⟨o, ho, rfl⟩ := Option.map_eq_some_iff.mp hw
            have es1 := acc_same z (Same.refl G'') nB
            refine ⟨rfl, ?_⟩
            dsimp only [tYes]
            rw [if_pos rfl]
            refine ⟨_, rfl, _, rfl, I, _, rfl, .inl (SqL.of (es1 _ _ gIG)), rfl, flat_txt inner, ?_⟩
            show ∃ a, _ ∧ _ ∧ _
            have ei : inV (.str o) (inner.map V.str) = decide (o ∈ inner) := inV_txt o inner
            rw [ei]
            exact acc_in z (Same.refl _) (mapTo_len (by rw [lm, List.length_map, sizeLine_eq]; omega)) (mapTo_succ (by rw [List.getElem?_map, List.getElem?_map, ho] <;> rfl))
          · have es1 := acc_same z2 (Same.refl G'') nB
            rw [← lm] at z2
            have gB : G3 B = some (.lst (((scF sc x).map fun y => decide (y ∈ inner)).map V.bl)) := by rw [z2.2, mapTo_all]
            have ea : ((scF sc x).map fun y => decide (y ∈ inner)).any id = (scF sc x).any fun y => decide (y ∈ inner) := by rw [List.any_map] <;> rfl
            refine ⟨B, _, rfl, SqL.of gB, _, rfl, ?_⟩
            rw [ea]
            refine ite2 (fun h => ?_) (fun h => ?_)
            · rw [if_pos h] at step
              exact ⟨_, rfl, acc_in z es1 ol (by show (List.filter _ (inner.take (i + 1))).map V.str = _; rw [step, List.map_append] <;> rfl)⟩
            · rw [if_neg h, List.append_nil] at step
              exact acc_out z es1 (by show (List.filter _ (inner.take (i + 1))).map V.str = _; rw [step])
        · have gD : G' D = some (.lst ((BK.prune (scF sc) inner).map V.str)) := by
            have this : G' D = some (.lst (((inner.take (inner.map V.str).length).filter fun x => (scF sc x).any fun y => decide (y ∈ inner)).map V.str)) := z.2
            rw [List.length_map, List.take_length] at this
            exact this
          have es := acc_same z (Same.refl G) nD
          have pl : (BK.prune (scF sc) inner).length ≤ inner.length := List.length_filter_le _ _
          exact ⟨inner.length, lt, D, BK.prune (scF sc) inner, .ref I, rfl, eG.trans es, eG.free nD, gD, fun x m => inn x (BK.prune_mem.mp m).1, fun x m => inb x (BK.prune_mem.mp m).1, by omega, .inr ⟨I, inner, rfl, es _ _ gI, inn, rfl, hn, rfl⟩⟩
      | false =>
        have hR := h2 rfl
        clear h1 h2
        rw [if_neg Bool.false_ne_true]
        have cl : BK.Closed (scF sc) inner := by rw [← hR]; exact BK.narrowL_shut
        unfold BK.ringL at q1 q2
        rw [hR] at q1 q2
        clear hR
        refine ⟨_, rfl, _, .inl ⟨_, SqL.of gI, rfl⟩, ?_⟩
        cases inner with
        | nil => exact iteT (q1 rfl _ eG)
        | cons x0 r =>
        have q2 := q2 _ rfl
        clear q1
        refine iteF ⟨_, rfl, 1, rfl, I, _, rfl, SqL.of gI, fun W nW => ?_⟩
        have ct : cutV ((x0 :: r).map V.str) none (some (1 : Int)) = [x0].map V.str := by
          have := cut_to ((x0 :: r).map V.str) 1 (by rw [List.length_map, List.length_cons]; omega)
          exact this
        rw [ct]
        have e2 : Same G (upd G W (.lst ([x0].map V.str))) := Same.new nW
        have gW : (upd G W (.lst ([x0].map V.str))) W = some (.lst ([x0].map V.str)) := upd_same
        have nWH : H W = none := eG.free nW
        have gI2 := e2 _ _ gI
        have e02 := eG.trans e2
        have IW : I ≠ W := ne_of_none gI nW
        show tWhile _ _ _ _ (upd G W (.lst ([x0].map V.str)))
        generalize upd G W (.lst ([x0].map V.str)) = G2 at e02 gW gI2 ⊢
        clear e2 eG gI ct nW
        obtain ⟨in0, hin0⟩ : ∃ l, l = x0 :: r := ⟨_, rfl⟩
        have x0m : x0 ∈ in0 := by rw [hin0]; exact List.mem_cons_self ..
        rw [← hin0] at gI2 inn inb il cl q2
        clear hin0
        refine while_go (fun mm σ G => ∃ (ws : List Str) (o5 : Option V), σ = [some (.ref b), some (.ref M), some (.ref I), some ov, some (.ref W), o5, none, none] ∧ Same H G ∧ G W = some (.lst (ws.map V.str)) ∧ G I = some (.lst (in0.map V.str)) ∧ BK.Way (scF sc) ws ∧ (∀ y ∈ ws, y ∈ in0) ∧ BK.wayI (scF sc) in0 mm ws = BK.wayI (scF sc) in0 in0.length [x0] ∧ mm + ws.length = in0.length + 1)
          ⟨in0.length, [x0], _, rfl, e02, gW, gI2, BK.Way.one, (fun y m => by rw [List.mem_singleton.mp m]; exact x0m), rfl, rfl⟩ (fun mm σ G z => ?_) (fun σ G Q Q' hq h => ?_)
        · obtain ⟨ws, o5, rfl, eG, gW, gI, wy, wsub, hw, hm⟩ := z
          refine ⟨true, rfl, iteT ?_⟩
          have lw := BK.nodup_sub wy.nd wsub
          obtain ⟨n, rfl⟩ : ∃ n, mm = n + 1 := ⟨mm - 1, by omega⟩
          obtain ⟨rw', x, hx⟩ := last_split wy.ne
          have xlast : ws.getLast? = some x := by rw [hx]; simp
          have xm : x ∈ in0 := wsub x (by rw [hx]; simp)
          obtain ⟨y, s1, s2, s3⟩ := BK.step_there cl xm
          obtain ⟨ta, hta, gta⟩ := (hv x).2 (inb x xm)
          have hkG := eG _ _ hk
          have gtG := eG _ _ gta
          have at1 : atI (ws.map V.str) (-1) = some (.str x) := by rw [hx, List.map_append]; exact atI_last _ _
          refine ⟨_, rfl, _, rfl, 1, rfl, W, _, _, _, rfl, rfl, SqL.of gW, at1, b, _, rfl, (by have q := DGet.k (k := Sum.inr x) hkG; rw [hta] at q; exact q), ta, rfl, ⟨_, SqT.of gtG⟩, fun B nB => ?_⟩
          have les : (scF sc x).length ≤ 100 := Nat.le_trans (BK.nodup_sub (bn.nd x) (bn.sub x)) bn.few
          refine lc_it (walk_tup (xs := (scF sc x).map V.str)) (AccP B G (fun j => (((scF sc x).take j).filter fun y => decide (y ∈ in0)).map V.str)) (acc_start rfl) (fun j G3 _ z => SqT.of (acc_same z (Same.refl G) nB _ _ gtG)) (fun j v G3 G4 hj z w => ?_) (fun G3 z => ?_)
          · obtain ⟨rfl, hw⟩ := w
            rw [List.getElem?_map] at hw
            obtain ⟨o, ho, rfl⟩ := Option.map_eq_some_iff.mp hw
            have es1 := acc_same z (Same.refl G) nB
            have step := filt_step (p := fun y => decide (y ∈ in0)) ho
            have ol := filt_len (p := fun y => decide (y ∈ in0)) (i := j) (xs := scF sc x) (by omega)
            refine ⟨rfl, _, rfl, _, rfl, I, _, rfl, .inl (SqL.of (es1 _ _ gI)), rfl, flat_txt in0, _, rfl, ?_⟩
            show (if inV (.str o) (in0.map V.str) = true then _ else _)
            rw [inV_txt]
            refine ite2 (fun h => ?_) (fun h => ?_)
            · rw [if_pos h] at step
              exact ⟨_, rfl, acc_in z (Same.refl _) ol (by show (List.filter _ ((scF sc x).take (j + 1))).map V.str = _; rw [step, List.map_append] <;> rfl)⟩
            · rw [if_neg h, List.append_nil] at step
              exact acc_out z (Same.refl _) (by show (List.filter _ ((scF sc x).take (j + 1))).map V.str = _; rw [step])
          have gB : G3 B = some (.lst ((BK.stepL (scF sc) in0 x).map V.str)) := by
            have this : G3 B = some (.lst ((((scF sc x).take ((scF sc x).map V.str).length).filter fun y => decide (y ∈ in0)).map V.str)) := z.2
            rw [List.length_map, List.take_length] at this
            exact this
          have es := acc_same z (Same.refl G) nB
          clear z
          have gW3 := es _ _ gW
          refine ⟨B, _, ((0 : Nat) : Int), .str y, rfl, rfl, SqL.of gB, atI_nat (by rw [List.getElem?_map, s1] <;> rfl), ?_⟩
          refine ⟨_, rfl, _, rfl, W, _, rfl, .inl (SqL.of gW3), rfl, flat_txt ws, _, rfl, ?_⟩
          show (if inV (.str y) (ws.map V.str) = true then _ else _)
          rw [inV_txt]
          refine ite2 (fun h => ?_) (fun h => ?_)
          · have ym : y ∈ ws := of_decide_eq_true h
            rw [BK.wayI_back xlast s1 ym] at hw
            have il : ws.idxOf y < ws.length := List.idxOf_lt_length_of_mem ym
            have hi : ws[ws.idxOf y]? = some y := by rw [List.getElem?_eq_getElem il, List.getElem_idxOf il]
            refine ⟨_, rfl, _, rfl, .inl ⟨rfl, _, SqL.of gW3⟩, _, rfl, W, _, _, ws.idxOf y, .str y, rfl, rfl, SqL.of gW3, rfl, flat_txt ws, by rw [List.getElem?_map, hi] <;> rfl, by simp [eqV], fun m z' hm hz => ?_, ?_⟩
            · rw [List.getElem?_map] at hz
              obtain ⟨s, hs, rfl⟩ := Option.map_eq_some_iff.mp hz
              have ne := idx_first m s hm hs
              simp [eqV, ne]
            · refine ⟨_, rfl, W, _, rfl, SqL.of gW3, fun D nD => ?_⟩
              rw [cut_from _ _ (by rw [List.length_map]; omega), ← List.map_drop, hw]
              exact q2 _ D ((eG.trans es).trans (Same.new nD)) ((eG.trans es).free nD) upd_same
          · have ym : y ∉ ws := fun z => h (decide_eq_true z)
            rw [BK.wayI_on xlast s1 ym] at hw
            refine ⟨_, rfl, .inl ⟨rfl, _, SqL.of gW3⟩, _, rfl, W, _, _, rfl, rfl, gW3, by rw [List.length_map, sizeLine_eq]; omega, n, Nat.lt_succ_self n, ws ++ [y], _, rfl, fun c o ec => ?_, by rw [upd_same, List.map_append] <;> rfl, ?_, wy.more (BK.last_at.mp xlast) s2 ym, fun u mu => ?_, hw, by rw [List.length_append, List.length_singleton]; omega⟩
            · rw [upd_ne (ne_of_none ec nWH)]
              exact es _ _ (eG _ _ ec)
            · rw [upd_ne IW]
              exact es _ _ gI
            · rcases List.mem_append.mp mu with z | z
              · exact wsub u z
              · rw [List.mem_singleton.mp z]
                exact s3
        · obtain ⟨k, e, q⟩ := h
          exact ⟨k, e, hq _ _ q⟩
    · obtain ⟨x1, h1, x2, h2, d, e, a1, a2, a3, a4, c, h3, h4⟩ := h
      exact ⟨x1, h1, x2, h2, d, e, a1, a2, a3, a4, c, h3, hq _ _ h4⟩
end
end OB
namespace OB
open PySem PySem.Spec PyProof.Rows L2
/-! ### where one arrives, a ring to which one comes -/
abbrev sFollow : Stmt := top 31
abbrev sRingOf : Stmt := top 32
abbrev sExact : Stmt := top 26
/-- the names of a land -/
structure GoodN (ns : List Str) : Prop where
  nd : ns.Nodup
  few : ns.length ≤ 100
  lay : LayN ns
  short : ∀ s ∈ ns, s.length ≤ 100
theorem book_no {ns : List Str} {r : Option BkR} {sc : Str → Option (List Str)} (h : bookOf ns r = some sc) : ∃ rs, r = some rs ∧ keysIn ns rs = true ∧ (∀ x ∈ ns, entB ns rs x = true) ∧ sc = fun x => if x ∈ ns then scOf ns rs x else none := by
  cases r with
  | none => cases h
  | some rs =>
    unfold bookOf at h
    by_cases z : keysIn ns rs = true ∧ ∀ x ∈ ns, entB ns rs x = true
    · have h : (if keysIn ns rs = true ∧ ∀ x ∈ ns, entB ns rs x = true then some (fun x => if x ∈ ns then scOf ns rs x else none) else none) = some sc := h
      rw [if_pos z] at h
      exact ⟨rs, rfl, z.1, z.2, (Option.some.inj h).symm⟩
    · have h : (if keysIn ns rs = true ∧ ∀ x ∈ ns, entB ns rs x = true then some (fun x => if x ∈ ns then scOf ns rs x else none) else none) = some sc := h
      rw [if_neg z] at h
      cases h
theorem book_at {ns : List Str} {r : Option BkR} {sc : Str → Option (List Str)} (h : bookOf ns r = some sc) (x : Str) : sc x = none ∨ (x ∈ ns ∧ ∃ ss, sc x = some (ordL ns ss) ∧ x ∉ ss) := by
  obtain ⟨rs, rfl, _, all, rfl⟩ := book_no h
  by_cases m : x ∈ ns
  · have ha := all x m
    show (if x ∈ ns then scOf ns rs x else none) = none ∨ _ ∧ ∃ ss, (if x ∈ ns then scOf ns rs x else none) = _ ∧ _
    rw [if_pos m]
    unfold scOf
    cases e : lookK rs (.inr x) with
    | none => exact .inl rfl
    | some q =>
      cases u : unlOf ns q with
      | none =>
        rw [entB_bad e u] at ha
        cases ha
      | some ss =>
        rw [entB_some e u] at ha
        refine .inr ⟨m, ss, by rw [Option.bind_some, u] <;> rfl, fun z => ?_⟩
        rw [decide_eq_true z] at ha
        cases ha
  · exact .inl (if_neg m)
theorem book_good {ns : List Str} {r : Option BkR} {sc : Str → Option (List Str)} (g : GoodN ns) (h : bookOf ns r = some sc) : BookN ns sc ∧ ∀ x, x ∉ scF sc x := by
  refine ⟨⟨g.few, fun x => ?_, fun x y m => ?_⟩, fun x m => ?_⟩
  · unfold scF
    rcases book_at h x with e | ⟨_, ss, e, _⟩
    · rw [e]
      exact List.nodup_nil
    · rw [e]
      exact g.nd.filter _
  · unfold scF at m
    rcases book_at h x with e | ⟨_, ss, e, _⟩
    · rw [e] at m
      cases m
    · rw [e] at m
      exact (List.mem_filter.mp m).1
  · unfold scF at m
    rcases book_at h x with e | ⟨_, ss, e, no⟩
    · rw [e] at m
      cases m
    · rw [e] at m
      exact no (of_decide_eq_true (List.mem_filter.mp m).2)
def metF (ns : List Str) (sc : Str → Option (List Str)) (ad : Str) : List Str := BK.comeI (scF sc) ns.length [ad] 0
def arrF (ns : List Str) (sc : Str → Option (List Str)) (ad : Str) : Option (List Str) := match ringOf sc (metF ns sc ad) with
  | some _ => none
  | none => some (ordL ns ((metF ns sc ad).filter fun x => !inB sc x))
def spArr (K : PySem.W.Frag) : Sp := fun vs H Q _ => ∃ (a b : Addr) (ad : Str) (ns : List Str) (sc : Str → Option (List Str)), vs = [.ref a, .ref b, .str ad] ∧ H a = some (.lst (ns.map V.str)) ∧ BookAt H b sc ∧ BookN ns sc ∧ LayN ns ∧ ad ∈ ns ∧ (arrF ns sc ad = none → ∀ H', Same H H' → Q .non H') ∧ ∀ as, arrF ns sc ad = some as → ∀ H' T, Same H H' → H T = none → H' T = some (.tup (as.map V.str)) → Q (.ref T) H'
def spExact (K : PySem.W.Frag) (C CL CK : Addr) : Sp := fun vs H Q E => ∃ (lv bv : V) (lb : Bool), vs = [lv, bv] ∧ LandQ K C H lv lb ∧ (lb = false → Bad E H CL "thing" lv) ∧ (lb = true → ∃ (l : Addr) (ns : List Str) (m : Int) (r : Option BkR), lv = .ref l ∧ LandAt H C l (ns.map V.str) m ∧ GoodN ns ∧ BkW K H bv r ∧
  (bookOf ns r = none → Bad E H CK "book" bv) ∧ ∀ sc, bookOf ns r = some sc → ∀ H' b, Same H H' → H b = none → BookAt H' b sc → Q (.ref b) H')
/-- what follow and ring_of ask, and refuse -/
def spAlong (K : PySem.W.Frag) (C CL CK CN : Addr) (tell : List Str → (Str → Option (List Str)) → Str → VK → Hp → Prop) : Sp := fun vs H Q E => ∃ (lv bv av : V) (lb : Bool), vs = [lv, bv, av] ∧ LandQ K C H lv lb ∧ (lb = false → Bad E H CL "thing" lv) ∧ (lb = true → ∃ (l : Addr) (ns : List Str) (m : Int) (r : Option BkR), lv = .ref l ∧ LandAt H C l (ns.map V.str) m ∧ GoodN ns ∧ BkW K H bv r ∧
  (bookOf ns r = none → Bad E H CK "book" bv) ∧ ∀ sc, bookOf ns r = some sc → ∃ k, Any K H av k ∧ (wordIn ns av = false → Bad E H CN "address" av) ∧ ∀ ad, av = .str ad → ad ∈ ns → tell ns sc ad Q H)
def tellF (ns : List Str) (sc : Str → Option (List Str)) (ad : Str) (Q : VK) (H : Hp) : Prop := (arrF ns sc ad = none → ∀ H', Same H H' → Q .non H') ∧ ∀ as, arrF ns sc ad = some as → ∀ H' T, Same H H' → H T = none → H' T = some (.tup (as.map V.str)) → Q (.ref T) H'
def tellR (ns : List Str) (sc : Str → Option (List Str)) (ad : Str) (Q : VK) (H : Hp) : Prop := (ringOf sc (metF ns sc ad) = none → ∀ H', Same H H' → Q .non H') ∧ ∀ rs, ringOf sc (metF ns sc ad) = some rs → ∀ H' D, Same H H' → H D = none → H' D = some (.lst (rs.map V.str)) → Q (.ref D) H'
section
variable {P : Program} {w : World} {K : PySem.W.Frag} {mg : Str → Option Value} {base : Heap}
theorem scArr : FnScope ["names", "book", "address", "met", "other"] ["names", "book", "address"] (defScope sArr) := ⟨rfl, rfl, rfl, by decide +kernel, rfl, by decide +kernel, by decide +kernel⟩
theorem ok_arr {f fC fR fO : Addr} {fd fdC fdR fdO : FuncData} (F : Fun K "arrivals" "arrivals" sArr f fd)
    (GC : FnOk P w K mg base CX0 1 fC fdC ["book", "address"] spComeF) (gC : mg "come_by" = some (.ref fC)) (kC : PySem.W.keepIn K (.ref fC) = true) (bC : Binds K fdC ["book", "address"] [])
    (GR : FnOk P w K mg base CX0 1 fR fdR ["book", "addresses"] spRing) (gR : mg "ring_among" = some (.ref fR)) (kR : PySem.W.keepIn K (.ref fR) = true) (bR : Binds K fdR ["book", "addresses"] [])
    (GO : FnOk P w K mg base CX0 1 fO fdO ["names", "addresses"] (spOrd K)) (gO : mg "in_order" = some (.ref fO)) (kO : PySem.W.keepIn K (.ref fO) = true) (bO : Binds K fdO ["names", "addresses"] []) : FnOk P w K mg base CX0 2 f fd ["names", "book", "address"] (spArr K) := by
  refine F.ok scArr (fun vs H Q E h => ?_) (fun cdv A outer s H vs Q E hr h => ?_)
  · obtain ⟨a, b, ad, ns, sc, rfl, _⟩ := h
    rfl
  · obtain ⟨a, b, ad, ns, sc, rfl, ha, bk, bn, lay, adn, q1, q2⟩ := h
    have nd := scArr.nd
    have hun := hr.units
    refine ⟨_, pss_cons (ps_set (i := 3) nd rfl (Or.inl rfl) (pe_call GC hr (by rfl) gC kC bC .nil pass0 (pa_cons (pv 1) (pa_cons (pv 2) pa_nil))))
      (pss_cons (ps_if (pt_cmpR op_notN (pe_call GR hr (by rfl) gR kR bR .nil pass0 (pa_cons (pv 1) (pa_cons (pv 3) pa_nil))) pe_non (nomark _)) (pss_one (ps_ret pe_non)) pss_nil)
      (pss_one (ps_ret (pe_call GO hr (by rfl) gO kO bO .nil pass0 (pa_cons (pv 0) (pa_cons (pe_lc (own := [("other", 4)]) (g := gName 4) (tt := tB (tDNotIn (tVar 4) (tVar 1))) rfl nd (pi_list (pv 3)) (blkOk_by (N := ["names", "book", "address", "met", "other"]) (sc := defScope sArr) (by decide +kernel)) (fun _ _ _ _ _ => pg_name (i := 4) nd rfl (Or.inl rfl))
          (fun _ _ _ _ _ => pts_one (pt_cmp (pc_dnotin (Nat.lt_of_le_of_lt (Nat.add_le_add_left (by decide : 1 ≤ 64) _) hun) (pv 4) (pv 1)))) (fun _ _ _ _ _ => pv 4)) pa_nil)))))), ?_⟩
    refine ⟨_, rfl, _, rfl, b, ad, ns, sc, rfl, bk, bn, adn, fun H1 D met e1 nD em ma ms gD => ?_⟩
    have em : met = metF ns sc ad := em
    refine ⟨_, rfl, _, rfl, b, D, ns, met, sc, rfl, bk.same e1, bn, lay, gD, ma.nd, ms, fun nr H2 e2 => ?_, fun rs yr H2 D2 e2 n2 g2 => ?_⟩
    · refine ⟨rfl, _, rfl, iteF ?_⟩
      have arr : arrF ns sc ad = some (ordL ns (met.filter fun x => !inB sc x)) := by
        unfold arrF
        rw [← em, nr]
      have e12 := e1.trans e2
      obtain ⟨kvs, hk, hv⟩ := bk.val
      have hk2 := e12 _ _ hk
      have gD2 := e2 _ _ gD
      have lm : met.length ≤ 100 := Nat.le_trans (BK.nodup_sub ma.nd ms) bn.few
      refine ⟨_, rfl, _, rfl, D, rfl, ⟨_, SqL.of gD2⟩, fun B nB => ?_⟩
      refine lc_it (walk_list (xs := met.map V.str)) (AccP B H2 (fun i => ((met.take i).filter fun x => !inB sc x).map V.str)) (acc_start rfl) (fun i G _ z => Same.seq (acc_same z (Same.refl H2) nB) (SqL.of gD2)) (fun i x G G' hi z y => ?_) (fun G z => ?_)
      · obtain ⟨rfl, hx⟩ := y
        rw [List.getElem?_map] at hx
        obtain ⟨x, hx2, rfl⟩ := Option.map_eq_some_iff.mp hx
        have es := acc_same z (Same.refl H2) nB
        have step := filt_step (p := fun x => !inB sc x) hx2
        have ol := filt_len (p := fun x => !inB sc x) (i := i) (xs := met) (by omega)
        refine ⟨rfl, _, rfl, _, rfl, b, _, rfl, DGet.k (k := Sum.inr x) (es _ _ hk2), _, rfl, ?_⟩
        rw [(hv x).1]
        refine ite2 (fun h => ?_) (fun h => ?_)
        · rw [if_pos h] at step
          exact ⟨_, rfl, acc_in z (Same.refl _) ol (by show (List.filter _ (met.take (i + 1))).map V.str = _; rw [step, List.map_append] <;> rfl)⟩
        · rw [if_neg h, List.append_nil] at step
          exact acc_out z (Same.refl _) (by show (List.filter _ (met.take (i + 1))).map V.str = _; rw [step])
      have gB : G B = some (.lst ((met.filter fun x => !inB sc x).map V.str)) := by
        have this : G B = some (.lst (((met.take (met.map V.str).length).filter fun x => !inB sc x).map V.str)) := z.2
        rw [List.length_map, List.take_length] at this
        exact this
      have e3 := acc_same z (Same.refl H2) nB
      have e13 := e12.trans e3
      refine ⟨a, B, false, ns, _, rfl, SqL.of (e13 _ _ ha), SqL.of gB, by have := bn.few; omega, fun H4 T e4 nT gT => ?_⟩
      exact q2 _ arr _ T (e13.trans e4) (e13.free nT) gT
    · refine ⟨rfl, _, rfl, iteT ?_⟩
      refine q1 ?_ _ (e1.trans e2)
      unfold arrF
      rw [← em, yr]
theorem scExact : FnScope ["land", "book", "told"] ["land", "book"] (defScope sExact) := ⟨rfl, rfl, rfl, by decide +kernel, rfl, by decide +kernel, by decide +kernel⟩
theorem ok_exact {f C CL CK fI fA fC fB : Addr} {fd fdA fdC fdB : FuncData} (F : Fun K "exact_book" "exact_book" sExact f fd) (L : LandM P w K mg base C fA fdA)
    (GC : FnOk P w K mg base (L2.CX P w) 2 fC fdC ["thing"] (spCkLand K C CL)) (gC : mg "check_land" = some (.ref fC)) (kC : PySem.W.keepIn K (.ref fC) = true) (bC : Binds K fdC ["thing"] [])
    (GB : FnOk P w K mg base CX0 3 fB fdB ["names", "thing"] (spBTold K)) (gB : mg "book_told" = some (.ref fB)) (kB : PySem.W.keepIn K (.ref fB) = true) (bB : Binds K fdB ["names", "thing"] [])
    (EK : ErrK P K mg "BadBook" CK fI "book") (htop : (P.main.scope.names.lookup ("super" : Str)).isSome = false) : FnOk P w K mg base (L2.CX P w) 4 f fd ["land", "book"] (spExact K C CL CK) := by
  refine F.okX scExact (fun vs H Q E h => ?_) (fun cdv A outer s H vs Q E hr h => ?_)
  · obtain ⟨lv, bv, lb, rfl, _⟩ := h
    rfl
  · obtain ⟨lv, bv, lb, rfl, lq, q1, q2⟩ := h
    have nd := scExact.nd
    have hr1 := hr.mono (show 1 ≤ 3 by decide)
    have hr2 := hr.mono (show 2 ≤ 3 by decide)
    refine ⟨_, pss_cons (ps_expr (pe_callS GC hr2 (by rfl) gC kC bC (fun σ => passAt (takes_of rfl rfl rfl rfl) σ) (pa_cons (pv 0) pa_nil)))
      (pss_cons (ps_set (i := 2) nd rfl (Or.inl rfl) (pe_call GB hr (by rfl) gB kB bB .nil pass0 (pa_cons (pe_meth0 (pv 0) L.LC.cl L.mA L.GA hr1 L.bA .nil pass0) (pa_cons (pv 1) pa_nil))))
      (pss_cons (ps_if (pt_cmpR op_isN (pv 2) pe_non (nomark _)) (pss_one (ps_raise rfl (takes_of rfl rfl rfl rfl) (pmk_err EK.T EK.B hr htop (by rfl) EK.g EK.k EK.ex EK.ty (by exact (pa_cons (pv 1) pa_nil)) rfl))) pss_nil)
      (pss_one (ps_ret (pv 2))))), ?_⟩
    refine ⟨_, rfl, lv, lb, rfl, lq, fun h => q1 h, fun h => ?_⟩
    obtain ⟨l, ns, m, r, rfl, hl, g, bw, b1, b2⟩ := q2 h
    obtain ⟨dl, Tl, h1, h2⟩ := id hl
    refine ⟨_, rfl, l, dl, _, rfl, h1, by rfl, l, ns.map V.str, m, rfl, hl, fun H1 ad e1 nad gad => ⟨_, rfl, ad, ns, bv, r, rfl, gad, g.few, bw.same e1, fun no H2 e2 => ?_, fun sc yes H2 b e2 nb hb => ?_⟩⟩
    · exact ⟨_, rfl, rfl, _, rfl, iteT ⟨_, rfl, _, rfl, fun d nd => ((b1 no).same (e1.trans e2)).raise d nd⟩⟩
    · exact ⟨_, rfl, rfl, _, rfl, iteF ⟨_, rfl, b2 sc yes _ b (e1.trans e2) (e1.free nb) hb⟩⟩
theorem scFollow : FnScope ["land", "book", "address", "told"] ["land", "book", "address"] (defScope sFollow) := ⟨rfl, rfl, rfl, by decide +kernel, rfl, by decide +kernel, by decide +kernel⟩
theorem ok_follow {f C CL CK CN fA fX fD fR : Addr} {fd fdA fdX fdD fdR : FuncData} (F : Fun K "follow" "follow" sFollow f fd) (L : LandM P w K mg base C fA fdA)
    (GX : FnOk P w K mg base (L2.CX P w) 4 fX fdX ["land", "book"] (spExact K C CL CK)) (gX : mg "exact_book" = some (.ref fX)) (kX : PySem.W.keepIn K (.ref fX) = true) (bX : Binds K fdX ["land", "book"] [])
    (GD : FnOk P w K mg base (L2.CX P w) 2 fD fdD ["land", "address"] (spCkAdr K C CN)) (gD : mg "check_address" = some (.ref fD)) (kD : PySem.W.keepIn K (.ref fD) = true) (bD : Binds K fdD ["land", "address"] [])
    (GR : FnOk P w K mg base CX0 2 fR fdR ["names", "book", "address"] (spArr K)) (gR : mg "arrivals" = some (.ref fR)) (kR : PySem.W.keepIn K (.ref fR) = true) (bR : Binds K fdR ["names", "book", "address"] []) : FnOk P w K mg base (L2.CX P w) 5 f fd ["land", "book", "address"] (spAlong K C CL CK CN tellF) := by
  refine F.okX scFollow (fun vs H Q E h => ?_) (fun cdv A outer s H vs Q E hr h => ?_)
  · obtain ⟨lv, bv, av, lb, rfl, _⟩ := h
    rfl
  · obtain ⟨lv, bv, av, lb, rfl, lq, q1, q2⟩ := h
    have nd := scFollow.nd
    have hr1 := hr.mono (show 1 ≤ 4 by decide)
    have hr2 := hr.mono (show 2 ≤ 4 by decide)
    refine ⟨_, pss_cons (ps_set (i := 3) nd rfl (Or.inl rfl) (pe_callS GX hr (by rfl) gX kX bX (fun σ => passAt (takes_of rfl rfl rfl rfl) σ) (pa_cons (pv 0) (pa_cons (pv 1) pa_nil))))
      (pss_cons (ps_expr (pe_callS GD hr2 (by rfl) gD kD bD (fun σ => passAt (takes_of rfl rfl rfl rfl) σ) (pa_cons (pv 0) (pa_cons (pv 2) pa_nil))))
      (pss_one (ps_ret (pe_call GR hr2 (by rfl) gR kR bR .nil pass0 (pa_cons (pe_meth0 (pv 0) L.LC.cl L.mA L.GA hr1 L.bA .nil pass0) (pa_cons (pv 3) (pa_cons (pv 2) pa_nil))))))), ?_⟩
    refine ⟨_, rfl, _, rfl, lv, bv, lb, rfl, lq, fun h => q1 h, fun h => ?_⟩
    obtain ⟨l, ns, m, r, rfl, hl, g, bw, b1, b2⟩ := q2 h
    refine ⟨l, ns, m, r, rfl, hl, g, bw, fun no => b1 no, fun sc yes H1 b e1 nb hb => ?_⟩
    obtain ⟨k, av', a1, a2⟩ := b2 sc yes
    refine ⟨_, rfl, _, rfl, l, ns, m, av, k, rfl, hl.same e1, av'.same e1, fun no => (a1 no).same e1, fun is H2 e2 => ?_⟩
    obtain ⟨ad, rfl⟩ : ∃ ad, av = .str ad := by
      cases av with
      | str x => exact ⟨x, rfl⟩
      | _ => cases is
    have adn : ad ∈ ns := of_decide_eq_true is
    obtain ⟨t1, t2⟩ := a2 ad rfl adn
    have e12 := e1.trans e2
    have hl2 := hl.same e12
    obtain ⟨dl, Tl, h1, h2⟩ := id hl2
    refine ⟨_, rfl, l, dl, _, rfl, h1, by rfl, l, ns.map V.str, m, rfl, hl2, fun H3 ad2 e3 nad gad => ⟨_, rfl, _, rfl, ad2, b, ad, ns, sc, rfl, gad, (hb.same e2).same e3, (book_good g yes).1, g.lay, adn, fun no H4 e4 => t1 no _ ((e12.trans e3).trans e4), fun as ya H4 T e4 nT gT => t2 as ya _ T ((e12.trans e3).trans e4) ((e12.trans e3).free nT) gT⟩⟩
theorem scRingOf : FnScope ["land", "book", "address", "told"] ["land", "book", "address"] (defScope sRingOf) := ⟨rfl, rfl, rfl, by decide +kernel, rfl, by decide +kernel, by decide +kernel⟩
theorem ok_ringOf {f C CL CK CN fA fX fD fC fR : Addr} {fd fdA fdX fdD fdC fdR : FuncData} (F : Fun K "ring_of" "ring_of" sRingOf f fd)
    (GX : FnOk P w K mg base (L2.CX P w) 4 fX fdX ["land", "book"] (spExact K C CL CK)) (gX : mg "exact_book" = some (.ref fX)) (kX : PySem.W.keepIn K (.ref fX) = true) (bX : Binds K fdX ["land", "book"] [])
    (GD : FnOk P w K mg base (L2.CX P w) 2 fD fdD ["land", "address"] (spCkAdr K C CN)) (gD : mg "check_address" = some (.ref fD)) (kD : PySem.W.keepIn K (.ref fD) = true) (bD : Binds K fdD ["land", "address"] [])
    (GC : FnOk P w K mg base CX0 1 fC fdC ["book", "address"] spComeF) (gC : mg "come_by" = some (.ref fC)) (kC : PySem.W.keepIn K (.ref fC) = true) (bC : Binds K fdC ["book", "address"] [])
    (GR : FnOk P w K mg base CX0 1 fR fdR ["book", "addresses"] spRing) (gR : mg "ring_among" = some (.ref fR)) (kR : PySem.W.keepIn K (.ref fR) = true) (bR : Binds K fdR ["book", "addresses"] []) : FnOk P w K mg base (L2.CX P w) 5 f fd ["land", "book", "address"] (spAlong K C CL CK CN tellR) := by
  refine F.okX scRingOf (fun vs H Q E h => ?_) (fun cdv A outer s H vs Q E hr h => ?_)
  · obtain ⟨lv, bv, av, lb, rfl, _⟩ := h
    rfl
  · obtain ⟨lv, bv, av, lb, rfl, lq, q1, q2⟩ := h
    have nd := scRingOf.nd
    have hr1 := hr.mono (show 1 ≤ 4 by decide)
    have hr2 := hr.mono (show 2 ≤ 4 by decide)
    refine ⟨_, pss_cons (ps_set (i := 3) nd rfl (Or.inl rfl) (pe_callS GX hr (by rfl) gX kX bX (fun σ => passAt (takes_of rfl rfl rfl rfl) σ) (pa_cons (pv 0) (pa_cons (pv 1) pa_nil))))
      (pss_cons (ps_expr (pe_callS GD hr2 (by rfl) gD kD bD (fun σ => passAt (takes_of rfl rfl rfl rfl) σ) (pa_cons (pv 0) (pa_cons (pv 2) pa_nil))))
      (pss_one (ps_ret (pe_call GR hr1 (by rfl) gR kR bR .nil pass0 (pa_cons (pv 3) (pa_cons (pe_call GC hr1 (by rfl) gC kC bC .nil pass0 (pa_cons (pv 3) (pa_cons (pv 2) pa_nil))) pa_nil)))))), ?_⟩
    refine ⟨_, rfl, _, rfl, lv, bv, lb, rfl, lq, fun h => q1 h, fun h => ?_⟩
    obtain ⟨l, ns, m, r, rfl, hl, g, bw, b1, b2⟩ := q2 h
    refine ⟨l, ns, m, r, rfl, hl, g, bw, fun no => b1 no, fun sc yes H1 b e1 nb hb => ?_⟩
    obtain ⟨k, av', a1, a2⟩ := b2 sc yes
    refine ⟨_, rfl, _, rfl, l, ns, m, av, k, rfl, hl.same e1, av'.same e1, fun no => (a1 no).same e1, fun is H2 e2 => ?_⟩
    obtain ⟨ad, rfl⟩ : ∃ ad, av = .str ad := by
      cases av with
      | str x => exact ⟨x, rfl⟩
      | _ => cases is
    have adn : ad ∈ ns := of_decide_eq_true is
    obtain ⟨t1, t2⟩ := a2 ad rfl adn
    have e12 := e1.trans e2
    have bn := (book_good g yes).1
    refine ⟨_, rfl, _, rfl, _, rfl, b, ad, ns, sc, rfl, hb.same e2, bn, adn, fun H3 D met e3 nD em ma ms gD => ⟨b, D, ns, met, sc, rfl, (hb.same e2).same e3, bn, g.lay, gD, ma.nd, ms, fun no H4 e4 => ?_, fun rs yr H4 D2 e4 n2 g2 => ?_⟩⟩
    · rw [em] at no
      exact t1 no _ ((e12.trans e3).trans e4)
    · rw [em] at yr
      exact t2 rs yr _ D2 ((e12.trans e3).trans e4) ((e12.trans e3).free n2) g2
end
end OB
namespace OB
open PySem PySem.Spec PyProof.Rows L2
/-! ### some things in a drawn order -/
abbrev sLNames : Stmt := top 40
theorem perm_erase {α : Type} : ∀ (ls : List α) (j : Nat) (h : j < ls.length), (ls[j] :: ls.eraseIdx j).Perm ls
  | _ :: _, 0, _ => List.Perm.refl _
  | a :: ls, j + 1, h => by
    have ih := perm_erase ls j (Nat.lt_of_succ_lt_succ h)
    show (ls[j]'(Nat.lt_of_succ_lt_succ h) :: a :: ls.eraseIdx j).Perm (a :: ls)
    exact (List.Perm.swap a _ _).trans (ih.cons a)
theorem perm_move {α : Type} {fs ls xs : List α} {j : Nat} {y : α} (p : (fs ++ ls).Perm xs) (h : ls[j]? = some y) : ((fs ++ [y]) ++ ls.eraseIdx j).Perm xs := by
  obtain ⟨hj, rfl⟩ := List.getElem?_eq_some_iff.mp h
  refine List.Perm.trans ?_ p
  rw [List.append_assoc]
  refine List.Perm.append_left fs ?_
  exact perm_erase ls j hj
def spMixed : Sp := fun vs H Q _ => ∃ (p t : Addr) (ss : List Str) (n : Nat), vs = [.ref p, .ref t] ∧ Src n H p ∧ n < 900000000 ∧ H t = some (.lst (ss.map V.str)) ∧ t ≠ p ∧ ss.length ≤ 100 ∧ LayN ss ∧
  ∀ H' D (ys : List Str), ButS p H H' → Src (n + ss.length) H' p → H D = none → D ≠ p → H' D = some (.lst (ys.map V.str)) → ys.Perm ss → Q (.ref D) H'
theorem map_erase {α β : Type} (f : α → β) : ∀ (l : List α) (j : Nat), (l.map f).eraseIdx j = (l.eraseIdx j).map f
  | [], _ => rfl
  | _ :: _, 0 => rfl
  | a :: l, j + 1 => by
    show f a :: (l.map f).eraseIdx j = _
    rw [map_erase f l j]
    rfl
section
variable {P : Program} {w : World} {K : PySem.W.Frag} {mg : Str → Option Value} {base : Heap}
theorem scMixed : FnScope ["draws", "some", "rest", "found"] ["draws", "some"] (defScope sMixed) := ⟨rfl, rfl, rfl, by decide +kernel, rfl, by decide +kernel, by decide +kernel⟩
theorem ok_mixed {f fD : Addr} {fd fdD : FuncData} (F : Fun K "_law_mixed" "_law_mixed" sMixed f fd) (T : TxtD mg)
    (GD : FnOk P w K mg base CX0 1 fD fdD ["draws", "many"] spDraw) (gD : mg "_law_draw" = some (.ref fD)) (kD : PySem.W.keepIn K (.ref fD) = true) (bD : Binds K fdD ["draws", "many"] []) : FnOk P w K mg base CX0 2 f fd ["draws", "some"] spMixed := by
  refine F.ok scMixed (fun vs H Q E h => ?_) (fun cdv A outer s H vs Q E hr h => ?_)
  · obtain ⟨p, t, ss, n, rfl, _⟩ := h
    rfl
  · obtain ⟨p, t, ss, n, rfl, S, hn, ht, nt, x2, lay, k⟩ := h
    have nd := scMixed.nd
    refine ⟨_, pss_cons (ps_par (i := 2) (j := 3) (by rfl) nd rfl rfl (by decide) rfl rfl (pa_cons (pe_callTy call_list_of (by rfl) T.list (by decide +kernel) (pa_cons (pv 1) pa_nil)) (pa_cons (pe_lst pa_nil) pa_nil)) (by rfl))
      (pss_cons (ps_while PassesOwn.never (pt_cmpR (op_neD hr.units) (pv 2) (pe_lst pa_nil) (nomark _))
        (pss_one (ps_expr (pe_bm PySem.F.plainAttrs_list PySem.F.slot_list_append PySem.F.type_list_append mt_append (pv 3)
          (pa_cons (pe_bm PySem.F.plainAttrs_list PySem.F.slot_list_pop PySem.F.type_list_pop mt_popAt (pv 2) (pa_cons (pe_call GD hr (by rfl) gD kD bD .nil pass0 (pa_cons (pv 0) (pa_cons (pe_callB call_len_seq (by rfl) T.len PySem.boot_len (pa_cons (pv 2) pa_nil)) pa_nil))) pa_nil)) pa_nil)))))
      (pss_one (ps_ret (pv 3)))), ?_⟩
    refine ⟨_, rfl, t, _, rfl, .inl (SqL.of ht), fun l nl => ?_⟩
    refine ⟨Nat.zero_le _, fun D nD => ?_⟩
    have lD : l ≠ D := ne_of_none (o := .lst (ss.map V.str)) upd_same nD
    have e1 : Same H (upd (upd H l (.lst (ss.map V.str))) D (.lst [])) := (Same.new nl).trans (Same.new nD)
    have nD0 : H D = none := by
      rw [upd_ne lD.symm] at nD
      exact nD
    have Dp : D ≠ p := S.ne nD0
    have lp : l ≠ p := S.ne nl
    have S1 := S.same e1
    have hl1 : (upd (upd H l (.lst (ss.map V.str))) D (.lst [])) l = some (.lst (ss.map V.str)) := by rw [upd_ne lD, upd_same]
    have hD1 : (upd (upd H l (.lst (ss.map V.str))) D (.lst [])) D = some (.lst (([] : List Str).map V.str)) := upd_same
    generalize upd (upd H l (.lst (ss.map V.str))) D (.lst []) = H1 at e1 S1 hl1 hD1
    refine ⟨_, _, rfl, ?_⟩
    refine while_go (fun mm σ G => ∃ fs ls : List Str, σ = [some (.ref p), some (.ref t), some (.ref l), some (.ref D)] ∧ G l = some (.lst (ls.map V.str)) ∧ G D = some (.lst (fs.map V.str)) ∧ (fs ++ ls).Perm ss ∧ ButS p H G ∧ Src (n + fs.length) G p ∧ mm = ls.length)
      ⟨_, [], ss, rfl, hl1, hD1, List.Perm.refl _, ButS.same e1, S1, rfl⟩ (fun mm σ G z => ?_) (fun σ G Q Q' hq h => ?_)
    · obtain ⟨fs, ls, rfl, hl, hD, pm, B, S', rfl⟩ := z
      have lsum : fs.length + ls.length = ss.length := by rw [← pm.length_eq, List.length_append]
      have lls : ∀ s ∈ ls, PyData.canLay0 (.str s) = true := fun s m => lay s (pm.mem_iff.mp (List.mem_append.mpr (.inr m)))
      refine ⟨_, rfl, Nat.zero_le _, fun E nE => ?_⟩
      have e2 : Same G (upd G E (.lst [])) := Same.new nE
      have gE : (upd G E (.lst [])) E = some (.lst (([] : List Str).map V.str)) := upd_same
      have S2 := S'.same e2
      have hl := e2 _ _ hl
      have hD := e2 _ _ hD
      have B := B.trans (ButS.same e2)
      show rNeD _ _ _ (upd G E (.lst [])) _
      generalize upd G E (.lst []) = G2 at e2 gE S2 hl hD B ⊢
      refine ⟨_, _, .lst (SqL.of hl) (dp_txt ls), .lst (SqL.of gE) (dp_txt []), shaped_list _ lls, by decide +kernel, _, rfl, ?_⟩
      rw [eqv_list]
      cases ls with
      | nil =>
        rw [decide_eq_true rfl, if_neg (by decide)]
        have pm2 : fs.Perm ss := by rw [← List.append_nil fs]; exact pm
        have lf := pm2.length_eq
        exact ⟨_, rfl, k _ D fs B (by rw [← lf]; exact S2) nD0 Dp hD pm2⟩
      | cons x0 r =>
        have ne : decide (x0 :: r = []) = false := decide_eq_false (by simp)
        rw [ne, if_pos (by decide)]
        generalize hls : x0 :: r = ls at *
        have l0 : 0 < ls.length := by rw [← hls]; simp
        refine ⟨_, rfl, .inl ⟨rfl, _, SqL.of hD⟩, _, rfl, .inl ⟨rfl, _, SqL.of hl⟩, _, rfl, _, rfl, l, _, rfl, .inl (SqL.of hl), p, (((ls.map V.str).length : Nat) : Int), n + fs.length, rfl, S2, by omega, by rw [List.length_map]; omega, small_many (by rw [List.length_map]; omega), fun H2 j B2 S3 j0 j1 => ?_⟩
        rw [List.length_map] at j1
        have hl2 := B2 _ _ lp hl
        have hD2 := B2 _ _ Dp hD
        have hj : j.toNat < ls.length := by omega
        obtain ⟨y, hy⟩ : ∃ y, ls[j.toNat]? = some y := ⟨_, List.getElem?_eq_getElem hj⟩
        refine ⟨l, _, j, j.toNat, .str y, rfl, rfl, hl2, by omega, by omega, seqIndex_of j0 (by rw [List.length_map]; omega), by rw [List.getElem?_map, hy] <;> rfl, ?_⟩
        refine ⟨D, _, _, rfl, rfl, by rw [upd_ne lD.symm]; exact hD2, by rw [List.length_map, sizeLine_eq]; omega, ?_⟩
        refine ⟨(ls.eraseIdx j.toNat).length, ?_, fs ++ [y], ls.eraseIdx j.toNat, rfl, by rw [upd_ne lD, upd_same, map_erase], by rw [upd_same, List.map_append] <;> rfl, perm_move pm hy, fun b o nb hb => ?_, ?_, rfl⟩
        · rw [List.length_eraseIdx_of_lt hj]
          omega
        · have bl : b ≠ l := fun z => by
            rw [z, nl] at hb
            cases hb
          have bD : b ≠ D := fun z => by
            rw [z, nD0] at hb
            cases hb
          rw [upd_ne bD, upd_ne bl]
          exact B2 _ _ nb (B _ _ nb hb)
        · rw [List.length_append, List.length_singleton]
          have S4 : Src (n + fs.length + 1) (upd (upd H2 l (.lst ((ls.map V.str).eraseIdx j.toNat))) D (.lst (fs.map V.str ++ [.str y]))) p := (S3.put lp).put Dp
          exact S4
    · obtain ⟨x1, h1, h2, h3⟩ := h
      refine ⟨x1, h1, h2, fun E nE => ?_⟩
      obtain ⟨d, e, a1, a2, a3, a4, c, h3, h4⟩ := h3 E nE
      exact ⟨d, e, a1, a2, a3, a4, c, h3, hq _ _ h4⟩
def sixN : List Str := ["a", "b", "c", "d", "x1", "zz"]
theorem six_good : GoodN sixN := ⟨by decide +kernel, by decide, by unfold LayN; decide +kernel, by decide +kernel⟩
def spLNames : Sp := fun vs H Q _ => ∃ (p : Addr) (many : Nat) (n : Nat), vs = [.ref p, .int (many : Nat)] ∧ Src n H p ∧ n < 900000000 ∧ 2 ≤ many ∧ many ≤ 6 ∧
  ∀ H' D (ns : List Str), ButS p H H' → Src (n + 6) H' p → H D = none → D ≠ p → H' D = some (.lst (ns.map V.str)) → ns.Nodup → (∀ x ∈ ns, x ∈ sixN) → ns.length = many → Q (.ref D) H'
theorem scLNames : FnScope ["draws", "many"] ["draws", "many"] (defScope sLNames) := ⟨rfl, rfl, rfl, by decide +kernel, rfl, by decide +kernel, by decide +kernel⟩
theorem ok_lnames {f fM : Addr} {fd fdM : FuncData} (F : Fun K "_law_land_names" "_law_land_names" sLNames f fd)
    (GM : FnOk P w K mg base CX0 2 fM fdM ["draws", "some"] spMixed) (gM : mg "_law_mixed" = some (.ref fM)) (kM : PySem.W.keepIn K (.ref fM) = true) (bM : Binds K fdM ["draws", "some"] []) : FnOk P w K mg base CX0 3 f fd ["draws", "many"] spLNames := by
  refine F.ok scLNames (fun vs H Q E h => ?_) (fun cdv A outer s H vs Q E hr h => ?_)
  · obtain ⟨p, many, n, rfl, _⟩ := h
    rfl
  · obtain ⟨p, many, n, rfl, S, hn, m2, m6, q⟩ := h
    refine ⟨_, pss_one (ps_ret (pe_slice sl_list (pe_call GM hr (by rfl) gM kM bM .nil pass0 (pa_cons (pv 0) (pa_cons (pe_lst (pa_cons pe_str (pa_cons pe_str (pa_cons pe_str (pa_cons pe_str (pa_cons pe_str (pa_cons pe_str pa_nil)))))))  pa_nil))) po_none (po_some (pv 1)))), ?_⟩
    refine ⟨_, rfl, by show 6 ≤ sizeLine; decide, fun t nt => ?_⟩
    have e1 : Same H (upd H t (.lst (sixN.map V.str))) := Same.new nt
    have gt : (upd H t (.lst (sixN.map V.str))) t = some (.lst (sixN.map V.str)) := upd_same
    have S1 := S.same e1
    have tp := S.ne nt
    refine ⟨p, t, sixN, n, rfl, S1, hn, gt, tp, by decide, six_good.lay, fun H2 D ys B2 S2 nD Dp gD pm => ?_⟩
    have ly : ys.length = 6 := pm.length_eq
    refine ⟨_, rfl, ((many : Nat) : Int), rfl, D, _, rfl, SqL.of gD, fun W nW => ?_⟩
    rw [cut_to _ _ (by rw [List.length_map]; omega), ← List.map_take]
    have B02 : ButS p H (upd H2 W (.lst ((ys.take many).map V.str))) := ((ButS.same e1).trans B2).trans (ButS.same (Same.new nW))
    have nd : ys.Nodup := pm.nodup_iff.mpr six_good.nd
    refine q _ W (ys.take many) B02 (S2.same (Same.new nW)) ?_ (S2.ne nW) upd_same (nd.sublist (List.take_sublist ..)) (fun x m => pm.mem_iff.mp (List.mem_of_mem_take m)) (by rw [List.length_take]; omega)
    cases q : H W with
    | none => rfl
    | some o =>
      have z := ((ButS.same e1).trans B2) W o (fun y => by rw [y] at nW; exact S2.ne nW rfl) q
      rw [nW] at z
      cases z
end
end OB
namespace OB
open PySem PySem.Spec PyProof.Rows L2
/-! ### the law's own: where one arrives, a drawn book -/
abbrev sLFol : Stmt := top 43
abbrev sAnyB : Stmt := top 44
theorem src_ne {n : Nat} {p c : Addr} {H : Hp} {o : HO} (S : Src n H p) (h : H c = some o) (no : ∀ xs, o ≠ .lst xs) : c ≠ p := fun z => by
  obtain ⟨x, y, w, hp, _⟩ := S
  rw [z, hp] at h
  exact no _ (Option.some.inj h).symm
/-- an entry of a dict that is a book -/
def EntP (H : Hp) (p : Key × V) (q : Str × List Str) : Prop := p.1 = Sum.inr q.1 ∧ ∃ t, p.2 = .ref t ∧ H t = some (.tup (q.2.map V.str))
def BkL (H : Hp) (b : Addr) (bs : List (Str × List Str)) : Prop := ∃ kvs, H b = some (.dK kvs) ∧ Paired (EntP H) kvs bs
structure BookL (ns : List Str) (bs : List (Str × List Str)) : Prop where
  nd : (bs.map Prod.fst).Nodup
  keys : ∀ q ∈ bs, q.1 ∈ ns
  good : ∀ q ∈ bs, q.2.Nodup ∧ (∀ y ∈ q.2, y ∈ ns) ∧ q.1 ∉ q.2
def scL (bs : List (Str × List Str)) (x : Str) : Option (List Str) := (bs.find? fun q => decide (q.1 = x)).map (·.2)
theorem EntP.same {H H' : Hp} {p : Key × V} {q : Str × List Str} (h : EntP H p q) (e : Same H H') : EntP H' p q := by
  obtain ⟨h1, t, h2, h3⟩ := h
  exact ⟨h1, t, h2, e _ _ h3⟩
theorem EntP.bs {n : Nat} {s : Addr} {H H' : Hp} {p : Key × V} {q : Str × List Str} (h : EntP H p q) (S : Src n H s) (e : ButS s H H') : EntP H' p q := by
  obtain ⟨h1, t, h2, h3⟩ := h
  exact ⟨h1, t, h2, e _ _ (src_ne S h3 (by intro xs z; cases z)) h3⟩
theorem BkL.same {H H' : Hp} {b : Addr} {bs : List (Str × List Str)} (h : BkL H b bs) (e : Same H H') : BkL H' b bs := by
  obtain ⟨kvs, h1, h2⟩ := h
  exact ⟨kvs, e _ _ h1, Paired.imp (fun p q z => z.same e) h2⟩
theorem BkL.bs {n : Nat} {s : Addr} {H H' : Hp} {b : Addr} {bs : List (Str × List Str)} (h : BkL H b bs) (S : Src n H s) (e : ButS s H H') : BkL H' b bs := by
  obtain ⟨kvs, h1, h2⟩ := h
  exact ⟨kvs, e _ _ (src_ne S h1 (by intro xs z; cases z)) h1, Paired.imp (fun p q z => z.bs S e) h2⟩
theorem val_ent {H : Hp} (x : Str) : ∀ {kvs : List (Key × V)} {bs : List (Str × List Str)}, Paired (EntP H) kvs bs → (valV kvs (.inr x) = none ∧ scL bs x = none ∧ x ∉ bs.map Prod.fst) ∨ ∃ t es, valV kvs (.inr x) = some (.ref t) ∧ scL bs x = some es ∧ H t = some (.tup (es.map V.str)) ∧ (x, es) ∈ bs
  | _, _, .nil => .inl ⟨rfl, rfl, by simp⟩
  | _, _, .cons (a := p) (b := q) h r => by
    obtain ⟨h1, t, h2, h3⟩ := h
    by_cases e : q.1 = x
    · refine .inr ⟨t, q.2, ?_, ?_, h3, ?_⟩
      · rw [valV_pos (by rw [h1, e])]
        exact congrArg some h2
      · simp [scL, List.find?_cons, e]
      · rw [← e]
        exact List.mem_cons_self ..
    · have z : ∀ l, scL (q :: l) x = scL l x := fun l => by simp [scL, List.find?_cons, e]
      rw [valV_neg (fun y => e (by rw [h1] at y; exact Sum.inr.inj y)), z]
      rcases val_ent x r with ⟨a1, a2, a3⟩ | ⟨t2, es, a1, a2, a3, a4⟩
      · exact .inl ⟨a1, a2, fun m => by
          rcases List.mem_cons.mp m with y | y
          · exact e y.symm
          · exact a3 y⟩
      · exact .inr ⟨t2, es, a1, a2, a3, List.mem_cons_of_mem _ a4⟩
theorem BkL.at {H : Hp} {b : Addr} {bs : List (Str × List Str)} (h : BkL H b bs) : BookAt H b (scL bs) := by
  obtain ⟨kvs, h1, h2⟩ := h
  refine ⟨kvs, h1, fun x => ?_⟩
  rcases val_ent x h2 with ⟨a1, a2, _⟩ | ⟨t, es, a1, a2, a3, _⟩
  · rw [a2]
    exact a1
  · rw [a2]
    exact ⟨t, a1, a3⟩
theorem scL_mem {bs : List (Str × List Str)} {x : Str} {es : List Str} (h : scL bs x = some es) : (x, es) ∈ bs := by
  unfold scL at h
  obtain ⟨q, h1, h2⟩ := Option.map_eq_some_iff.mp h
  have e := of_decide_eq_true (List.find?_some (p := fun q : Str × List Str => decide (q.1 = x)) h1)
  have m := List.mem_of_find?_eq_some h1
  rw [← e, ← h2]
  exact m
theorem BookL.n {ns : List Str} {bs : List (Str × List Str)} (h : BookL ns bs) (few : ns.length ≤ 100) : BookN ns (scL bs) := by
  refine ⟨few, fun x => ?_, fun x y m => ?_⟩
  · unfold scF
    cases e : scL bs x with
    | none => exact List.nodup_nil
    | some es => exact (h.good _ (scL_mem e)).1
  · unfold scF at m
    cases e : scL bs x with
    | none =>
      rw [e] at m
      cases m
    | some es =>
      rw [e] at m
      exact (h.good _ (scL_mem e)).2.1 y m
def spLFol (K : PySem.W.Frag) : Sp := fun vs H Q _ => ∃ (a b : Addr) (ad : Str) (ns : List Str) (sc : Str → Option (List Str)), vs = [.ref a, .ref b, .str ad] ∧ H a = some (.lst (ns.map V.str)) ∧ BookAt H b sc ∧ BookN ns sc ∧ ad ∈ ns ∧
  (BK.Round (scF sc) ad → ∀ H', Same H H' → Q .non H') ∧ (¬ BK.Round (scF sc) ad → ∀ met, BK.MetA (scF sc) ad met → ∀ H' T, Same H H' → H T = none → H' T = some (.tup ((ns.filter fun x => decide (x ∈ met) && !inB sc x).map V.str)) → Q (.ref T) H')
section
variable {P : Program} {w : World} {K : PySem.W.Frag} {mg : Str → Option Value} {base : Heap}
theorem scLFol : FnScope ["names", "book", "address", "known", "name"] ["names", "book", "address"] (defScope sLFol) := ⟨rfl, rfl, rfl, by decide +kernel, rfl, by decide +kernel, by decide +kernel⟩
theorem ok_lfol {f fR fG : Addr} {fd fdR fdG : FuncData} (F : Fun K "_law_follow" "_law_follow" sLFol f fd) (T : TxtC mg)
    (GR : FnOk P w K mg base CX0 1 fR fdR ["book", "address"] spCome) (gR : mg "_law_reach" = some (.ref fR)) (kR : PySem.W.keepIn K (.ref fR) = true) (bR : Binds K fdR ["book", "address"] [])
    (GG : FnOk P w K mg base CX0 2 fG fdG ["book", "address"] spGoR) (gG : mg "_law_goes_round" = some (.ref fG)) (kG : PySem.W.keepIn K (.ref fG) = true) (bG : Binds K fdG ["book", "address"] []) : FnOk P w K mg base CX0 3 f fd ["names", "book", "address"] (spLFol K) := by
  refine F.ok scLFol (fun vs H Q E h => ?_) (fun cdv A outer s H vs Q E hr h => ?_)
  · obtain ⟨a, b, ad, ns, sc, rfl, _⟩ := h
    rfl
  · obtain ⟨a, b, ad, ns, sc, rfl, ha, bk, bn, adn, q1, q2⟩ := h
    have nd := scLFol.nd
    have hun := hr.units
    have hr1 := hr.mono (show 1 ≤ 2 by decide)
    refine ⟨_, pss_cons (ps_set (i := 3) nd rfl (Or.inr rfl) (pe_call GR hr1 (by rfl) gR kR bR .nil pass0 (pa_cons (pv 1) (pa_cons (pv 2) pa_nil))))
      (pss_cons (ps_if (pt_val (pe_call GG hr (by rfl) gG kG bG .nil pass0 (pa_cons (pv 1) (pa_cons (pv 2) pa_nil)))) (pss_one (ps_ret pe_non)) pss_nil)
      (pss_one (ps_ret (pe_callTy call_tuple_of (by rfl) T.tuple bTuple (pa_cons (pe_lc (own := [("name", 4)]) (g := gName 4) (tt := tAnd (tTest (tOp (rIn K false) (tVar 4) (tVar 3))) (tB (tDNotIn (tVar 4) (tVar 1)))) rfl nd (pi_list (pv 0)) (blkOk_by (N := ["names", "book", "address", "known", "name"]) (sc := defScope sLFol) (by decide +kernel)) (fun _ _ _ _ _ => pg_name (i := 4) nd rfl (Or.inl rfl))
          (fun _ _ _ _ _ => pts_one (PW.pt (pw_and (pt_cmpR (op_inK (K := K) rfl) (pv 4) (pv 3) (by rfl)) (pw_and1 (pt_cmp (pc_dnotin (Nat.lt_of_le_of_lt (Nat.add_le_add_left (by decide : 1 ≤ 64) _) hun) (pv 4) (pv 1))))))) (fun _ _ _ _ _ => pv 4)) pa_nil))))), ?_⟩
    refine ⟨_, rfl, _, rfl, b, ad, ns, sc, rfl, bk, bn, adn, fun H1 D met e1 nD ma ms gD => ?_⟩
    refine ⟨_, rfl, _, rfl, b, ad, ns, sc, rfl, bk.same e1, bn, adn, fun H2 c e2 hc => ⟨_, rfl, ?_⟩⟩
    have e12 := e1.trans e2
    cases c with
    | true => exact iteT (q1 (hc.mp rfl) _ e12)
    | false =>
      refine iteF ?_
      have nr : ¬ BK.Round (scF sc) ad := fun z => by have := hc.mpr z; cases this
      obtain ⟨kvs, hk, hv⟩ := bk.val
      have hk2 := e12 _ _ hk
      have ha2 := e12 _ _ ha
      have gD2 := e2 _ _ gD
      have few := bn.few
      refine ⟨_, rfl, a, rfl, ⟨_, SqL.of ha2⟩, fun B nB => ?_⟩
      refine lc_it (walk_list (xs := ns.map V.str)) (AccP B H2 (fun i => ((ns.take i).filter fun x => decide (x ∈ met) && !inB sc x).map V.str)) (acc_start rfl) (fun i G _ z => Same.seq (acc_same z (Same.refl H2) nB) (SqL.of ha2)) (fun i x G G' hi z y => ?_) (fun G z => ?_)
      · obtain ⟨rfl, hx⟩ := y
        rw [List.getElem?_map] at hx
        obtain ⟨x, hx2, rfl⟩ := Option.map_eq_some_iff.mp hx
        have es := acc_same z (Same.refl H2) nB
        have step := filt_step (p := fun x => decide (x ∈ met) && !inB sc x) hx2
        have ol := filt_len (p := fun x => decide (x ∈ met) && !inB sc x) (i := i) (xs := ns) (by omega)
        refine ⟨rfl, _, rfl, _, rfl, D, _, rfl, .inl (SqL.of (es _ _ gD2)), rfl, flat_txt met, _, rfl, ?_⟩
        show (if inV (.str x) (met.map V.str) = true then _ else _)
        rw [inV_txt]
        by_cases hm : x ∈ met
        · rw [decide_eq_true hm, if_pos rfl]
          rw [decide_eq_true hm, Bool.true_and] at step
          refine ⟨_, rfl, _, rfl, b, _, rfl, DGet.k (k := Sum.inr x) (es _ _ hk2), _, rfl, ?_⟩
          rw [(hv x).1]
          refine ite2 (fun h => ?_) (fun h => ?_)
          · rw [if_pos h] at step
            exact ⟨_, rfl, acc_in z (Same.refl _) ol (by show (List.filter _ (ns.take (i + 1))).map V.str = _; rw [step, List.map_append] <;> rfl)⟩
          · rw [if_neg h, List.append_nil] at step
            exact acc_out z (Same.refl _) (by show (List.filter _ (ns.take (i + 1))).map V.str = _; rw [step])
        · rw [decide_eq_false hm, if_neg Bool.false_ne_true]
          rw [decide_eq_false hm, Bool.false_and, if_neg Bool.false_ne_true, List.append_nil] at step
          exact iteF (acc_out z (Same.refl _) (by show (List.filter _ (ns.take (i + 1))).map V.str = _; rw [step]))
      have gB : G B = some (.lst ((ns.filter fun x => decide (x ∈ met) && !inB sc x).map V.str)) := by
        have this : G B = some (.lst (((ns.take (ns.map V.str).length).filter fun x => decide (x ∈ met) && !inB sc x).map V.str)) := z.2
        rw [List.length_map, List.take_length] at this
        exact this
      have e3 := acc_same z (Same.refl H2) nB
      have e13 := e12.trans e3
      exact ⟨B, _, rfl, .inl ⟨SqL.of gB, fun T nT => q2 nr met ma _ T (e13.trans (Same.new nT)) (e13.free nT) upd_same⟩⟩
end
/-! ### a drawn book -/
def spAnyB : Sp := fun vs H Q _ => ∃ (p a : Addr) (ns : List Str) (most n : Nat), vs = [.ref p, .ref a, .int (most : Nat)] ∧ Src n H p ∧ n < 800000000 ∧ H a = some (.lst (ns.map V.str)) ∧ a ≠ p ∧ GoodN ns ∧ ns.length ≤ 6 ∧ most ≤ 6 ∧
  ∀ H' B bs, ButS p H H' → Src (n + 60) H' p → H B = none → B ≠ p → BkL H' B bs → BookL ns bs → Q (.ref B) H'
theorem cut_up (xs : List V) (c : Nat) : cutV xs none (some (c : Int)) = xs.take c := by
  by_cases h : c ≤ xs.length
  · exact cut_to xs c h
  · have z : cutV xs none (some (c : Int)) = cutV xs none (some ((xs.length : Nat) : Int)) := by
      unfold cutV
      rw [HT.sIx_nat, HT.sIx_nat, Nat.min_self]
      congr 2
      omega
    rw [z, cut_to xs xs.length (Nat.le_refl _), List.take_length, List.take_of_length_le (by omega)]
theorem not_ahead {zs : List Str} (nd : zs.Nodup) {i : Nat} {x : Str} (h : zs[i]? = some x) : x ∉ zs.take i := fun m => by
  have z : (zs.take (i + 1)).Nodup := nd.sublist (List.take_sublist ..)
  rw [List.take_add_one, h] at z
  exact (List.nodup_append.mp z).2.2 x m x (by simp) rfl
theorem pick_of {most j : Nat} {x : V} (h : ([V.int 0, V.int 1, V.int 1, V.int 1, V.int 2, V.int 2, V.int (most : Nat)] : List V)[j]? = some x) : ∃ c : Nat, x = V.int (c : Nat) := by
  have m := List.mem_of_getElem? h
  simp only [List.mem_cons, List.not_mem_nil, or_false] at m
  rcases m with m | m | m | m | m | m | m
  · exact ⟨0, m⟩
  · exact ⟨1, m⟩
  · exact ⟨1, m⟩
  · exact ⟨1, m⟩
  · exact ⟨2, m⟩
  · exact ⟨2, m⟩
  · exact ⟨most, m⟩
section
variable {P : Program} {w : World} {K : PySem.W.Frag} {mg : Str → Option Value} {base : Heap}
theorem scAnyB : FnScope ["draws", "names", "most", "found", "name", "others", "one"] ["draws", "names", "most"] (defScope sAnyB) := ⟨rfl, rfl, rfl, by decide +kernel, rfl, by decide +kernel, by decide +kernel⟩
theorem ok_anyB {f fD fP fM : Addr} {fd fdD fdP fdM : FuncData} (F : Fun K "_law_any_book" "_law_any_book" sAnyB f fd) (T : TxtC mg)
    (GD : FnOk P w K mg base CX0 1 fD fdD ["draws", "many"] spDraw) (gD : mg "_law_draw" = some (.ref fD)) (kD : PySem.W.keepIn K (.ref fD) = true) (bD : Binds K fdD ["draws", "many"] [])
    (GP : FnOk P w K mg base CX0 2 fP fdP ["draws", "some"] (spPick K)) (gP : mg "_law_pick" = some (.ref fP)) (kP : PySem.W.keepIn K (.ref fP) = true) (bP : Binds K fdP ["draws", "some"] [])
    (GM : FnOk P w K mg base CX0 2 fM fdM ["draws", "some"] spMixed) (gM : mg "_law_mixed" = some (.ref fM)) (kM : PySem.W.keepIn K (.ref fM) = true) (bM : Binds K fdM ["draws", "some"] []) : FnOk P w K mg base CX0 3 f fd ["draws", "names", "most"] spAnyB := by
  refine F.ok scAnyB (fun vs H Q E h => ?_) (fun cdv A outer s H vs Q E hr h => ?_)
  · obtain ⟨p, a, ns, most, n, rfl, _⟩ := h
    rfl
  · obtain ⟨p, a, ns, most, n, rfl, S, hn, ha, np, g, l6, m6, q⟩ := h
    have nd := scAnyB.nd
    have hun := hr.units
    have hr1 := hr.mono (show 1 ≤ 2 by decide)
    refine ⟨_, pss_cons (ps_set (i := 3) nd rfl (Or.inl rfl) pe_dnewK)
      (pss_cons (ps_for PassesOwn.never rfl (pi_list (pe_slice sl_list (pe_call GM hr (by rfl) gM kM bM .nil pass0 (pa_cons (pv 0) (pa_cons (pv 1) pa_nil))) po_none (po_some (pe_call GD hr1 (by rfl) gD kD bD .nil pass0 (pa_cons (pv 0) (pa_cons (pe_op op_add (pe_callB call_len_seq (by rfl) T.len PySem.boot_len (pa_cons (pv 1) pa_nil)) pe_int) pa_nil)))))) (pg_name (i := 4) nd rfl (Or.inr rfl))
        (pss_cons (ps_setLc (i := 5) (own := [("one", 6)]) (g := gName 6) (tt := tTest (tOp rNe (tVar 6) (tVar 4))) rfl nd rfl rfl (sw_true rfl rfl rfl (by decide +kernel)) (pi_list (pv 1)) (blkOk_by (N := ["draws", "names", "most", "found", "name", "others", "one"]) (sc := defScope sAnyB) (by decide +kernel)) (fun _ _ _ _ _ => pg_name (i := 6) nd rfl (Or.inl rfl)) (fun _ _ _ _ _ => pts_one (pt_cmpR op_ne (pv 6) (pv 4) (nomark _))) (fun _ _ _ _ _ => pv 6))
        (pss_one (ps_dput (Nat.lt_of_le_of_lt (Nat.add_le_add_left (by decide : 1 ≤ 64) _) hun) (pv 3) (pv 4) (pe_callTy call_tuple_of (by rfl) T.tuple bTuple (pa_cons (pe_slice sl_list (pe_call GM hr (by rfl) gM kM bM .nil pass0 (pa_cons (pv 0) (pa_cons (pv 5) pa_nil))) po_none
          (po_some (pe_call GP hr (by rfl) gP kP bP .nil pass0 (pa_cons (pv 0) (pa_cons (pe_lst (pa_cons pe_int (pa_cons pe_int (pa_cons pe_int (pa_cons pe_int (pa_cons pe_int (pa_cons pe_int (pa_cons (pv 2) pa_nil)))))))) pa_nil))))) pa_nil)) rfl))))
      (pss_one (ps_ret (pv 3)))), ?_⟩
    intro B nB
    have e1 : Same H (upd H B (.dK [])) := Same.new nB
    have gB : (upd H B (.dK [])) B = some (.dK []) := upd_same
    have Bp : B ≠ p := S.ne nB
    have S1 := S.same e1
    have ha1 := e1 _ _ ha
    show tSeq _ _ _ _ (upd H B (.dK []))
    generalize upd H B (.dK []) = H1 at e1 gB S1 ha1 ⊢
    refine ⟨_, rfl, _, rfl, p, a, ns, n, rfl, S1, by omega, ha1, np, by omega, g.lay, fun H2 D ys B2 S2 nD Dp gD pm => ?_⟩
    have ha2 := B2 _ _ np ha1
    have gB2 := B2 _ _ Bp gB
    refine ⟨_, rfl, _, rfl, a, _, rfl, .inl (SqL.of ha2), _, 1, rfl, rfl, p, _, n + ns.length, rfl, S2, by omega, by omega, small_many (n := (ns.map V.str).length + 1) (by rw [List.length_map]; omega), fun H3 j B3 S3 j0 j1 => ?_⟩
    have gD3 := B3 _ _ Dp gD
    have gB3 := B3 _ _ Bp gB2
    have ha3 := B3 _ _ np ha2
    obtain ⟨k, rfl⟩ : ∃ k : Nat, j = (k : Int) := ⟨j.toNat, (Int.toNat_of_nonneg j0).symm⟩
    have lys : ys.length = ns.length := pm.length_eq
    rw [List.length_map] at j1
    refine ⟨_, rfl, D, _, rfl, SqL.of gD3, fun W nW => ?_⟩
    rw [cut_to _ _ (by rw [List.length_map]; omega), ← List.map_take]
    have e4 : Same H3 (upd H3 W (.lst ((ys.take k).map V.str))) := Same.new nW
    have gW : (upd H3 W (.lst ((ys.take k).map V.str))) W = some (.lst ((ys.take k).map V.str)) := upd_same
    have S4 := S3.same e4
    have Wp := S3.ne nW
    have gB4 := e4 _ _ gB3
    have ha4 := e4 _ _ ha3
    have B4 : ButS p H (upd H3 W (.lst ((ys.take k).map V.str))) := (((ButS.same e1).trans B2).trans B3).trans (ButS.same e4)
    have WB : W ≠ B := (ne_of_none gB3 nW).symm
    have nds : (ys.take k).Nodup := (pm.nodup_iff.mpr g.nd).sublist (List.take_sublist ..)
    have sub : ∀ x ∈ ys.take k, x ∈ ns := fun x m => pm.mem_iff.mp (List.mem_of_mem_take m)
    have lzs : (ys.take k).length ≤ 6 := by rw [List.length_take]; omega
    refine ⟨W, rfl, ⟨_, SqL.of gW⟩, ?_⟩
    generalize upd H3 W (.lst ((ys.take k).map V.str)) = H4 at gW S4 gB4 ha4 B4
    generalize ys.take k = zs at gW nds sub lzs
    clear gD3 gB3 ha3 gB2 ha2 gD e4 S3 S2 B3 B2 pm lys nD nW j0 j1
    refine for_it (walk_list (xs := zs.map V.str)) (fun i σ G => (∃ o4 o5 : Option V, σ = [some (.ref p), some (.ref a), some (.int (most : Nat)), some (.ref B), o4, o5, none]) ∧ ButS p H G ∧ Src (n + ns.length + 1 + 7 * i) G p ∧ G W = some (.lst (zs.map V.str)) ∧ ∃ bs, BkL G B bs ∧ bs.map Prod.fst = zs.take i ∧ ∀ q ∈ bs, q.2.Nodup ∧ (∀ y ∈ q.2, y ∈ ns) ∧ q.1 ∉ q.2)
      ⟨⟨_, _, rfl⟩, B4, S4, gW, [], ⟨[], gB4, .nil⟩, rfl, fun q m => by cases m⟩ (fun i σ G _ z => SqL.of z.2.2.2.1) (fun i v σ G G' hi z y => ?_) (fun σ G z => ?_)
    · obtain ⟨⟨o4, o5, rfl⟩, BG, SG, gW, bs, bl, bk, bg⟩ := z
      obtain ⟨rfl, hx⟩ := y
      rw [List.getElem?_map] at hx
      obtain ⟨x, hx2, rfl⟩ := Option.map_eq_some_iff.mp hx
      have li : i < zs.length := (List.getElem?_eq_some_iff.mp hx2).1
      have haG := BG _ _ np ha
      dsimp only [gName]
      refine ⟨_, rfl, a, rfl, ⟨_, SqL.of haG⟩, fun O nO => ?_⟩
      refine lc_it (walk_list (xs := ns.map V.str)) (AccP O G' (fun j => ((ns.take j).filter fun y => !decide (y = x)).map V.str)) (acc_start rfl) (fun j G _ z => Same.seq (acc_same z (Same.refl G') nO) (SqL.of haG)) (fun j v G G2 hj z y => ?_) (fun G z => ?_)
      · obtain ⟨rfl, hy⟩ := y
        rw [List.getElem?_map] at hy
        obtain ⟨y, hy2, rfl⟩ := Option.map_eq_some_iff.mp hy
        have step := filt_step (p := fun y => !decide (y = x)) hy2
        have ol := filt_len (p := fun y => !decide (y = x)) (i := j) (xs := ns) (by omega)
        have ed : decide (V.str y = V.str x) = decide (y = x) := decide_eq_decide.mpr ⟨fun z => V.str.inj z, fun z => by rw [z]⟩
        refine ⟨rfl, _, rfl, _, rfl, rfl, _, rfl, ?_⟩
        rw [ed]
        refine ite2 (fun h => ?_) (fun h => ?_)
        · rw [if_pos h] at step
          exact ⟨_, rfl, acc_in z (Same.refl _) ol (by show (List.filter _ (ns.take (j + 1))).map V.str = _; rw [step, List.map_append] <;> rfl)⟩
        · rw [if_neg h, List.append_nil] at step
          exact acc_out z (Same.refl _) (by show (List.filter _ (ns.take (j + 1))).map V.str = _; rw [step])
      have gO : G O = some (.lst ((ns.filter fun y => !decide (y = x)).map V.str)) := by
        have this : G O = some (.lst (((ns.take (ns.map V.str).length).filter fun y => !decide (y = x)).map V.str)) := z.2
        rw [List.length_map, List.take_length] at this
        exact this
      have e1 := acc_same z (Same.refl G') nO
      clear z
      have lo : (ns.filter fun y => !decide (y = x)).length ≤ ns.length := List.length_filter_le _ _
      have om : ∀ y ∈ ns.filter (fun y => !decide (y = x)), y ∈ ns ∧ y ≠ x := fun y m => ⟨(List.mem_filter.mp m).1, fun z => by
        have := (List.mem_filter.mp m).2
        rw [decide_eq_true z] at this
        cases this⟩
      have ond : (ns.filter fun y => !decide (y = x)).Nodup := g.nd.filter _
      generalize ns.filter (fun y => !decide (y = x)) = os at gO lo om ond
      have S5 := SG.same e1
      have BG5 := BG.trans (ButS.same e1)
      have gW5 := e1 _ _ gW
      have bl5 := bl.same e1
      have Op := SG.ne nO
      refine ⟨_, rfl, _, rfl, p, O, os, _, rfl, S5, by omega, gO, Op, by omega, fun s m => g.lay s (om s m).1, fun H6 D ys B6 S6 nD Dp gD pm => ?_⟩
      have lys := pm.length_eq
      have gW6 := B6 _ _ Wp gW5
      have bl6 := bl5.bs S5 B6
      have BG6 := BG5.trans B6
      refine ⟨_, rfl, _, rfl, by show 7 ≤ sizeLine; decide, fun Z nZ => ?_⟩
      have e7 : Same H6 (upd H6 Z (.lst [V.int 0, V.int 1, V.int 1, V.int 1, V.int 2, V.int 2, V.int (most : Nat)])) := Same.new nZ
      have gZ : (upd H6 Z (.lst [V.int 0, V.int 1, V.int 1, V.int 1, V.int 2, V.int 2, V.int (most : Nat)])) Z = some (.lst [V.int 0, V.int 1, V.int 1, V.int 1, V.int 2, V.int 2, V.int (most : Nat)]) := upd_same
      have Zp := S6.ne nZ
      refine ⟨p, Z, _, _, rfl, S6.same e7, by omega, SqL.of gZ, Zp, Nat.succ_pos _, by show 7 < 1000000; decide, fun H8 jj xx B8 S8 hxx => ?_⟩
      obtain ⟨c, rfl⟩ := pick_of hxx
      have gW8 := B8 _ _ Wp (e7 _ _ gW6)
      have bl8 := (bl6.same e7).bs (S6.same e7) B8
      have BG8 := (BG6.trans (ButS.same e7)).trans B8
      have gD8 := B8 _ _ Dp (e7 _ _ gD)
      refine ⟨_, rfl, D, _, rfl, SqL.of gD8, fun U nU => ?_⟩
      rw [cut_up, ← List.map_take]
      have gU : (upd H8 U (.lst ((ys.take c).map V.str))) U = some (.lst ((ys.take c).map V.str)) := upd_same
      have e9 : Same H8 (upd H8 U (.lst ((ys.take c).map V.str))) := Same.new nU
      refine ⟨U, _, rfl, .inl ⟨SqL.of gU, fun T nT => ?_⟩⟩
      have e10 := e9.trans (Same.new (u := .tup ((ys.take c).map V.str)) nT)
      have gT : (upd (upd H8 U (.lst ((ys.take c).map V.str))) T (.tup ((ys.take c).map V.str))) T = some (.tup ((ys.take c).map V.str)) := upd_same
      generalize upd (upd H8 U (.lst ((ys.take c).map V.str))) T (.tup ((ys.take c).map V.str)) = H10 at e10 gT ⊢
      have gW10 := e10 _ _ gW8
      obtain ⟨kvs, hB, pr⟩ := bl8.same e10
      have lk : kvs.length = bs.length := pr.length
      have lb : bs.length = i := by
        have := congrArg List.length bk
        rw [List.length_map, List.length_take] at this
        omega
      have noX : valV kvs (.inr x) = none := by
        rcases val_ent x pr with ⟨a1, _, _⟩ | ⟨t, es, _, _, _, a4⟩
        · exact a1
        · exact absurd (by rw [← bk]; exact List.mem_map.mpr ⟨_, a4, rfl⟩) (not_ahead nds hx2)
      have TB : T ≠ B := ne_of gT hB (by intro z; cases z)
      refine ⟨_, rfl, _, rfl, _, _, rfl, DPut.k (k := Sum.inr x) hB (by rw [sizeLine_eq]; omega), ⟨_, _, rfl⟩, fun b o nb eb => ?_, ?_, ?_, bs ++ [(x, ys.take c)], ?_, ?_, fun u m => ?_⟩
      · have bB : b ≠ B := fun z => by
          rw [z, nB] at eb
          cases eb
        rw [upd_ne bB]
        exact e10 _ _ (BG8 b o nb eb)
      · exact ((S8.same e10).put Bp).mono (by omega)
      · rw [upd_ne WB]
        exact gW10
      · refine ⟨_, upd_same, ?_⟩
        rw [putK_new _ noX]
        refine Paired.snoc (Paired.imp (fun pq qq z => ?_) pr) ⟨rfl, T, rfl, ?_⟩
        · obtain ⟨z1, t, z2, z3⟩ := z
          exact ⟨z1, t, z2, by rw [upd_ne (ne_of z3 hB (by intro y; cases y))]; exact z3⟩
        · rw [upd_ne TB]
          exact gT
      · rw [List.map_append, bk, List.take_add_one, hx2]
        rfl
      · rcases List.mem_append.mp m with m | m
        · exact bg u m
        · rw [List.mem_singleton.mp m]
          exact ⟨(pm.nodup_iff.mpr ond).sublist (List.take_sublist ..), fun y my => (om y (pm.mem_iff.mp (List.mem_of_mem_take my))).1, fun my => (om x (pm.mem_iff.mp (List.mem_of_mem_take my))).2 rfl⟩
    · obtain ⟨⟨o4, o5, rfl⟩, BG, SG, gW, bs, bl, bk, bg⟩ := z
      rw [List.length_map] at SG bk
      rw [List.take_length] at bk
      exact ⟨_, rfl, q G B bs BG (SG.mono (by omega)) nB Bp bl ⟨by rw [bk]; exact nds, fun u m => sub u.1 (by rw [← bk]; exact List.mem_map.mpr ⟨u, m, rfl⟩), bg⟩⟩
end
end OB
namespace OB
open PySem PySem.Spec PyProof.Rows L2
/-! ### list(d.items()) of a dict of one entry, whatever its key -/
def Items1 (G : Hp) (p : Addr) (k u : V) : Prop := ∃ t, G p = some (.lst [.ref t]) ∧ G t = some (.tup [k, u])
def rItems1 : V → Hp → VK → Prop := fun x H Q => ∃ (d : Addr) (k u : V) (kv uv : Value), x = .ref d ∧ H d = some (oneO d kv uv) ∧ RelV k kv ∧ RelV u uv ∧ ∀ H' p, Same H H' → H p = none → Items1 H' p k u → Q (.ref p) H'
def tItems1 (te : TE) : TE := fun σ H Q => te σ H fun x H1 => rItems1 x H1 Q
section
variable {prog : Program} {w : World} {A : Around} {E : Value → Shared → Prop} {s : Shared} {r d : Addr} {es : Array DictEntry} {ep : Nat}
/-- the new list, filled by the items -/
theorem init_raw {R : Result → Shared → Prop} (hh : A.handled = none) (hv : s.heap.IsItemsView r d) (hm : DT.Raw s.heap d es ep) (S : Addr) (hSr : S ≠ r) (hSd : d ≠ S) (hS : s.heap.get? S = some { cls := .type "list", data := .seq #[] }) (hn : es.size ≤ sizeLine)
    (hR : ∀ h' tk acc c as, (∀ b o, b ≠ S → s.heap.get? b = some o → h'.get? b = some o) → h'.get? S = some { cls := .type "list", dict := none, data := .seq acc c, slots := #[] } → as.length = es.size → DT.Made es S h' as → acc.toList = as.map Value.ref → R (.ok (.ret .none)) { s with heap := h', toks := tk }) :
    wpAny (model prog w) A.in1 (Builtin.«list.__init__» ⟨[.ref S, .ref r], []⟩) (fun fin s' => match fin with | .done f => R (.ok f) s' | .again c' => c'.quiet = true ∧ codeAny (model prog w) A c' R s') (fun e s' => R (.error e) s') s := by
  have hS2 := Heap.get?_update_self (Obj.mapSeq (fun _ => (#[] : Array Value))) hS rfl
  have oth : ∀ b o, b ≠ S → s.heap.get? b = some o → (s.heap.update S (Obj.mapSeq (fun _ => (#[] : Array Value)))).get? b = some o := fun b o hb e => (Heap.get?_update_other _ _ (Ne.symm hb)).trans e
  obtain ⟨o, ho, hx⟩ := hv
  have last : wpAny (model prog w) A.in1 (Builtin.List.listExtendWith (.ref S) (.ref r) .none) (fun fin s' => match fin with | .done f => R (.ok f) s' | .again c' => c'.quiet = true ∧ codeAny (model prog w) A c' R s') (fun e s' => R (.error e) s') { s with heap := s.heap.update S (Obj.mapSeq (fun _ => (#[] : Array Value))) } :=
    DT.extI hh ⟨o, oth r o hSr.symm ho, hx⟩ (hm.at' fun o e => oth d o hSd e) S hSr hSd .none _ hS2 (fun h' tk acc c as hk hS' hl hG hacc => hR h' tk acc c as (fun b o hb e => hk b o hb (oth b o hb e)) hS' hl (hG.low (Nat.le_of_lt (Heap.lt_size hS2))) hacc) hn
  show wpAny _ _ (Builtin.List.listItems (.ref S) >>= fun old => Builtin.List.listUpdate (.ref S) (fun _ => #[]) >>= fun _ => letGo old.toList.reverse >>= fun _ => Builtin.List.listExtendWith (.ref S) (.ref r) .none) _ _ s
  refine wpAny_bind ?_
  unfold Builtin.List.listItems
  refine wpAny_bind (wpAny_seqItems hS rfl (wpAny_pure ?_))
  show wpAny _ _ (updateSeq S (fun _ => #[]) >>= fun _ => letGo (#[] : Array Value).toList.reverse >>= fun _ => Builtin.List.listExtendWith (.ref S) (.ref r) .none) _ _ s
  exact wpAny_bind (wpAny_updateSeq hS rfl (wpAny_bind (wpAny_letGo last)))
theorem list_raw {Q : Value → Shared → Prop} (hh : A.handled = none) (hv : s.heap.IsItemsView r d) (hm : DT.Raw s.heap d es ep) (hn : es.size ≤ sizeLine)
    (hQ : ∀ h' tk acc c as, (∀ b o, s.heap.get? b = some o → h'.get? b = some o) → h'.get? s.heap.objs.size = some { cls := .type "list", dict := none, data := .seq acc c, slots := #[] } → as.length = es.size → DT.Made es s.heap.objs.size h' as → acc.toList = as.map Value.ref → Q (.ref s.heap.objs.size) { s with heap := h', toks := tk }) :
    wpAny (model prog w) A (call (.type "list") [.ref r]) Q E s := by
  refine callType_codes (Q₁ := fun obj z => obj = .ref s.heap.objs.size ∧ z = { s with heap := s.heap.push { cls := .type "list", data := .seq #[] } }) PySem.F.called_list (PySem.F.typeCall_list_1 _) PySem.F.entry_list_init (code_list_new _ ⟨rfl, rfl⟩) fun obj z h => ?_
  obtain ⟨rfl, rfl⟩ := h
  have hS : (s.heap.push { cls := .type "list", data := .seq #[] }).get? s.heap.objs.size = some { cls := .type "list", data := .seq #[] } := Heap.get?_push_size _ rfl
  obtain ⟨o, ho, hx⟩ := hv
  refine ⟨⟨_, hS, rfl⟩, PySem.F.args_list_init_2 _ _, init_raw (A := A.in1) hh ⟨o, Heap.get?_push_of_some _ ho, hx⟩ (hm.push _) _ (Nat.ne_of_gt (Heap.lt_size ho)) (Nat.ne_of_lt hm.lt) hS hn fun h' tk acc c as hk hS' hl hG hacc => ⟨rfl, ?_⟩⟩
  exact hQ h' tk acc c as (fun b o e => hk b o (Nat.ne_of_lt (Heap.lt_size e)) (Heap.get?_push_of_some _ e)) hS' hl hG hacc
end
section
variable {X : Cx} {e : Expr} {te : TE} {p apos cpos pos : Pos}
theorem pe_items1 (hc : X.calm = true) (he : PE X e te) (hg : Gl X "list") (hm : X.mg "list" = none) (hv : bootBuiltins "list" = some (.type "list")) (hbase : attributeBase e "items" X.env (eval e X.env) = eval e X.env := by rfl) (hline : (apos.endLine == cpos.line) = true := by rfl)
    (hs : starEach [.Call (.Attribute e "items" apos) [] [] cpos] X.env = (false, eval (.Call (.Attribute e "items" apos) [] [] cpos) X.env) :: starEach [] X.env := by rfl) :
    PE X (.Call (.Name "list" p) [.Call (.Attribute e "items" apos) [] [] cpos] [] pos) (tItems1 te) := by
  refine ⟨fun pins s σ H Q I hq => wpAny_Call_Name_kw (ld_blt I hg hm hv ?_)⟩
  refine PyProof.Rows.callWith_type1 ?_ hs rfl
  rw [hs]
  show wpAny _ _ (spliced ((false, eval (.Call (.Attribute e "items" apos) [] [] cpos) X.env) :: backTo pos (starEach [] X.env))) _ _ s
  refine Calls.spliced_cons (wpAny_Call_method (T := "dict") (id := "dict.items") hbase rfl hline F.plainAttrs_dict F.slot_dict_items F.type_dict_items (thn (he.run pins s σ H _ I hq) fun u s1 ⟨x, H1, I1, rx, d, k, v, kv, uv, ex, hd, rk, rv, q⟩ => ?_))
  subst ex
  obtain rfl : u = Value.ref d := rx
  obtain ⟨⟨hs0, en, ep, ek, ev, raw⟩, _⟩ := I1.hok d _ hd
  obtain ⟨od, ho, hx, hdt⟩ := id raw
  have I2 : Inv X pins σ H1 { s1 with heap := s1.heap.push { cls := .type "dict_items", data := .fields #[.ref d] } } := I1.kept (t' := s1.toks) fun b ob q => Heap.get?_push_of_some _ q
  refine ⟨⟨od, ho, hx.1⟩, (fun b z => by cases z; exact ⟨od, ho, hx.2.1⟩), ?_⟩
  show wpAny _ _ (callWith cpos (.builtin "dict.items") [.ref d] [] []) _ X.xe s1
  refine method_meetsIn F.slot_dict_items F.entry_dict_items rfl (PySem.evalArgs_none ⟨rfl, ⟨od, ho, hx.1⟩, F.args_dict_items_1 _, _, DT.meetsItems (es := #[en]) (ep := ep) hs0, raw, Calls.spliced_nil ?_⟩)
  refine list_raw (es := #[en]) (ep := ep) (I1.ok.hd hc) ⟨_, Heap.get?_push_size _ rfl, rfl, rfl⟩ (raw.push _) (by show 1 ≤ sizeLine; decide) fun h' tk acc c as hk hS hl hG hacc => ?_
  obtain ⟨t, rfl⟩ : ∃ t, as = [t] := by
    match as, hl with
    | [t], _ => exact ⟨t, rfl⟩
  obtain ⟨en2, g1, g2⟩ := hG.pairs 0 t rfl
  obtain rfl : en = en2 := Option.some.inj g1
  have tn : H1 t = none := I2.hok.fresh (Nat.le_of_lt (hG.above t (List.mem_singleton.mpr rfl)))
  have pn := I2.hok.fresh (Nat.le_refl (s1.heap.push { cls := .type "dict_items", data := .fields #[.ref d] }).objs.size)
  have tS := hG.above t (List.mem_singleton.mpr rfl)
  have tne : (s1.heap.push { cls := .type "dict_items", data := .fields #[.ref d] }).objs.size ≠ t := fun z => Nat.lt_irrefl _ (z ▸ tS)
  have tz : (s1.heap.push { cls := .type "dict_items", data := .fields #[.ref d] }).get? t = none := Heap.get?_none_of_le (Nat.le_of_lt tS)
  have sz : (s1.heap.push { cls := .type "dict_items", data := .fields #[.ref d] }).get? (s1.heap.push { cls := .type "dict_items", data := .fields #[.ref d] }).objs.size = none := Heap.get?_none_of_le (Nat.le_refl _)
  have hacc : acc.toList = [Value.ref t] := hacc
  have hS : h'.get? (s1.heap.push { cls := .type "dict_items", data := .fields #[.ref d] }).objs.size = some { cls := .type "list", dict := none, data := .seq acc c, slots := #[] } := hS
  refine ⟨.ref _, _, I2.un (t' := tk) (OE.un2 (o := .lst [.ref t]) (u := .tup [k, v]) hk sz tz pn tn) (OE.hok2 I2.hok hk pn tn ⟨by show 1 ≤ sizeLine; decide, [.ref t], c, .cons rfl .nil, by rw [← hacc, Array.toArray_toList]; exact hS⟩ ⟨by show 2 ≤ sizeLine; decide, [en.key, en.val], .cons (by rw [ek]; exact rk) (.cons (by rw [ev]; exact rv) .nil), ⟨_, g2, rfl, _, rfl⟩⟩), rfl, ?_⟩
  refine q _ _ (fun b o eb => ?_) pn ⟨t, upd_same, by rw [upd_ne tne.symm, upd_same]⟩
  exact OE.upd2_at pn tn eb
end
end OB
namespace OB
open PySem PySem.Spec PyProof.Rows L2
/-! ### a display with one entry, its key None or a tuple -/
def tDispN (tk tv : TE) : TE := fun σ H Q => ∀ p, H p = none → tPairs [(tk, tv)] σ (upd H p (.dK [])) fun ps H2 => H2 p = some (.dK []) ∧ ∃ b, ps = [(.non, .ref b)] ∧ Q (.ref p) (upd H2 p (oneO p .none (.ref b)))
def tDispT (tk tv : TE) : TE := fun σ H Q => ∀ p, H p = none → tPairs [(tk, tv)] σ (upd H p (.dK [])) fun ps H2 => H2 p = some (.dK []) ∧ ∃ (t b : Addr) (ks : List Key), ps = [(.ref t, .ref b)] ∧ H2 t = some (.tup (ks.map kV)) ∧ Q (.ref p) (upd H2 p (oneO p (.ref t) (.ref b)))
section
variable {X : Cx} {pos : Pos} {k v : Expr} {tk tv : TE}
theorem empty_raw {P : Program} {w : World} {H : Hp} {h : Heap} {p : Addr} (ok : HOk P w H h) (e : H p = some (.dK [])) : (p == sysModules) = false ∧ ∃ o ep, h.get? p = some o ∧ o.ExactDict ∧ o.data = .dict #[] ep := by
  obtain ⟨_, hd, vs, kv, o, es, ep, ho, hx, hdt, hk, hp, hn⟩ := dk_of ok e
  cases kv
  generalize hl : es.toList = l at hp
  cases hp
  have z : es = #[] := by
    rw [← Array.toArray_toList (xs := es), hl]
  subst z
  exact ⟨hd, o, ep, ho, hx, hdt⟩
theorem pe_dispN (h : PPs X pos [some k] [v] [(tk, tv)]) : PE X (.Dict [some k] [v] pos) (tDispN tk tv) := by
  refine ⟨fun pins s σ H Q I q => ?_⟩
  have hn := I.hok.fresh (Nat.le_refl s.heap.objs.size)
  have I1 := I.laid (a := s.heap.objs.size) (o := .dK []) (h' := s.heap.push { cls := .type "dict", data := .dict #[] }) (t' := s.toks) (fun _ _ q => Heap.get?_push_of_some _ q) (Nat.le_refl _) (dk_empty s.heap I.big)
  refine wpAny_Dict_walk (knd := noneKind X.prog X.w) rfl rfl (by simp) (by show 1 ≤ 15; decide) (thn (h.run pins _ σ _ _ I1 (q _ hn)) fun ws s2 ⟨ps, H2, I2, rel, e, b, ep, q2⟩ => ?_)
  subst ep
  obtain ⟨hd, o, ep, ho, hx, hdt⟩ := empty_raw I2.hok e
  obtain ⟨a1, a2, rfl, r1, r2⟩ : ∃ a1 a2, ws = [(a1, a2)] ∧ a1 = Value.none ∧ a2 = Value.ref b := by
    cases rel with
    | cons r1 r2 =>
      cases r2
      exact ⟨_, _, rfl, r1.1, r1.2⟩
  subst r1 r2
  refine ⟨[(none, .ref b)], ⟨rfl, rfl, trivial⟩, ⟨o, #[], ep, ho, hx, hdt, fun e he => by simp at he, .nil, List.nodup_nil⟩, fun h' dd' hs => ⟨.ref s.heap.objs.size, _, ?_, rfl, q2⟩⟩
  obtain ⟨o', es, ep', ho', hx', hdt', _, hp, _⟩ := dd'
  have one : ∃ en, es = #[en] ∧ en.key = Value.none ∧ en.val = Value.ref b := by
    have hp : Pairs (noneKind X.prog X.w) es.toList [(none, .ref b)] := hp
    generalize hl : es.toList = l at hp
    cases hp with
    | @cons en kv es2 kvs h1 h2 h3 =>
      cases h3
      refine ⟨en, by rw [← Array.toArray_toList (xs := es), hl], nk_none h1, h2⟩
  obtain ⟨en, rfl, k1, k2⟩ := one
  exact d_write I2 (by rw [e]; exact True.intro) hs ⟨o', ho'⟩ (oneO_ok ⟨hd, en, ep', k1, k2, o', ho', hx', hdt'⟩)
theorem pe_dispT (hu : X.A.units < cLine) (h : PPs X pos [some k] [v] [(tk, tv)]) : PE X (.Dict [some k] [v] pos) (tDispT tk tv) := by
  refine ⟨fun pins s σ H Q I q => ?_⟩
  have hn := I.hok.fresh (Nat.le_refl s.heap.objs.size)
  have I1 := I.laid (a := s.heap.objs.size) (o := .dK []) (h' := s.heap.push { cls := .type "dict", data := .dict #[] }) (t' := s.toks) (fun _ _ q => Heap.get?_push_of_some _ q) (Nat.le_refl _) (dk_empty s.heap I.big)
  have hz := pairTrees_length [some k] [v] X.env pos rfl rfl
  rw [arm_eval_Dict, zip_pairTrees [some k] [v] X.env pos rfl rfl, dictDisplay_pairs (pairTrees [some k] [v] X.env pos) (fun z => by rw [z] at hz; cases hz) (by rw [hz]; show 1 < 17; decide)]
  refine wpAny_bind (wpAny_standAt (wpAny_bind (wpAny_subDictH (knd := tupleKind (mixKind X.prog X.w)) (by exact hu) (by rw [hz]; show 1 ≤ 15; decide) (thn (h.run pins _ σ _ _ I1 (q _ hn)) fun ws s2 ⟨ps, H2, I2, rel, e, t, b, ks, ep, ht, q2⟩ => ?_))))
  subst ep
  obtain ⟨hd, o, ep, ho, hx, hdt⟩ := empty_raw I2.hok e
  obtain ⟨a1, a2, rfl, r1, r2⟩ : ∃ a1 a2, ws = [(a1, a2)] ∧ a1 = Value.ref t ∧ a2 = Value.ref b := by
    cases rel with
    | cons r1 r2 =>
      cases r2
      exact ⟨_, _, rfl, r1.1, r1.2⟩
  subst r1 r2
  refine ⟨[(ks, t, .ref b)], ⟨rfl, rfl, key_of I2.hok ht, trivial⟩, ⟨o, #[], ep, ho, hx, hdt, rfl, fun y hy => (by cases hy), List.nodup_nil⟩, fun h' tk' dd' hs => wpAny_pure ⟨.ref s.heap.objs.size, _, ?_, rfl, q2⟩⟩
  obtain ⟨o', es, ep', ho', hx', hdt', he, _, _⟩ := dd'
  have he : es.toList = [entryOfKey (tupleKind (mixKind X.prog X.w)) (ks, t, .ref b)] := he
  have z : es = #[entryOfKey (tupleKind (mixKind X.prog X.w)) (ks, t, .ref b)] := by rw [← Array.toArray_toList (xs := es), he]
  subst z
  exact d_write I2 (by rw [e]; exact True.intro) hs ⟨o', ho'⟩ (oneO_ok ⟨hd, _, ep', rfl, rfl, o', ho', hx', hdt'⟩)
end
end OB
namespace OB
open PySem PySem.Spec PyProof.Rows L2
/-! ### a thing as it may be passed -/
abbrev sLoose : Stmt := top 39
theorem pss_dead {X : Cx} {st : List Stmt} : PSs X st (fun _ _ _ => False) := ⟨fun _ _ _ _ _ _ h => h.elim⟩
def spLoose0 : Sp := fun vs H Q _ => ∃ (p : Addr) (x : Str), vs = [.ref p, .str x] ∧ x.length ≤ 100 ∧ ∀ H', Same H H' → Q (.str x) H'
def spLoose1 : Sp := fun vs H Q _ => ∃ (p t : Addr) (ss : List Str) (n : Nat), vs = [.ref p, .ref t] ∧ Src n H p ∧ n < 900000000 ∧ H t = some (.tup (ss.map V.str)) ∧ ss.length ≤ 100 ∧ (∀ s ∈ ss, s.length ≤ 100) ∧ ∀ H' D tp, ButS p H H' → Src (n + 1) H' p → H D = none → D ≠ p → H' D = some (mkX tp (ss.map V.str)) → Q (.ref D) H'
section
variable {P : Program} {w : World} {K : PySem.W.Frag} {mg : Str → Option Value} {base : Heap}
theorem scLoose : FnScope ["draws", "thing", "found", "part"] ["draws", "thing"] (defScope sLoose) := ⟨rfl, rfl, rfl, by decide +kernel, rfl, by decide +kernel, by decide +kernel⟩
theorem ok_loose0 {f : Addr} {fd : FuncData} (F : Fun K "_law_loose" "_law_loose" sLoose f fd) (T : TxtC mg) : FnOk P w K mg base CX0 1 f fd ["draws", "thing"] spLoose0 := by
  refine F.ok scLoose (fun vs H Q E h => ?_) (fun cdv A outer s H vs Q E hr h => ?_)
  · obtain ⟨p, x, rfl, _⟩ := h
    rfl
  · obtain ⟨p, x, rfl, hx, q⟩ := h
    refine ⟨_, pss_cons (ps_if (pt_val (pe_callB call_isAT (by rfl) T.isi bootIsi (pa_cons (pv 1) (pa_cons (pe_tup (pa_cons (pe_bltn (v := .ty "list") (u := .type "list") (by rfl) T.list bList rfl) (pa_cons (pe_bltn (v := .ty "tuple") (u := .type "tuple") (by rfl) T.tuple bTuple rfl) pa_nil))) pa_nil)))) pss_dead pss_nil)
      (pss_one (ps_ret (pv 1))), ?_⟩
    have av : Any K H (.str x) .str := .str hx
    refine ⟨_, rfl, by show 2 ≤ sizeLine; decide, fun tp htp => ?_⟩
    obtain ⟨t, S⟩ := (av.same (Same.new (u := .tup [.ty "list", .ty "tuple"]) htp)).says
    exact ⟨_, tp, _, t, _, _, rfl, upd_same, .cons (.ty _) (.cons (.ty _) .nil), S.ty, S.seq, _, rfl, iteF ⟨_, rfl, q _ (Same.new htp)⟩⟩
theorem ok_loose1 {f fD : Addr} {fd fdD : FuncData} (F : Fun K "_law_loose" "_law_loose" sLoose f fd) (T : TxtC mg) (gF : mg "_law_loose" = some (.ref f)) (bF : Binds K fd ["draws", "thing"] [])
    (GD : FnOk P w K mg base CX0 1 fD fdD ["draws", "many"] spDraw) (gD : mg "_law_draw" = some (.ref fD)) (kD : PySem.W.keepIn K (.ref fD) = true) (bD : Binds K fdD ["draws", "many"] []) : FnOk P w K mg base CX0 2 f fd ["draws", "thing"] spLoose1 := by
  have G0 : FnOk P w K mg base CX0 1 f fd ["draws", "thing"] spLoose0 := ok_loose0 F T
  refine F.ok scLoose (fun vs H Q E h => ?_) (fun cdv A outer s H vs Q E hr h => ?_)
  · obtain ⟨p, t, ss, n, rfl, _⟩ := h
    rfl
  · obtain ⟨p, t, ss, n, rfl, S, hn, ht, l100, sh, q⟩ := h
    have nd := scLoose.nd
    refine ⟨_, pss_cons (ps_if (pt_val (pe_callB call_isAT (by rfl) T.isi bootIsi (pa_cons (pv 1) (pa_cons (pe_tup (pa_cons (pe_bltn (v := .ty "list") (u := .type "list") (by rfl) T.list bList rfl) (pa_cons (pe_bltn (v := .ty "tuple") (u := .type "tuple") (by rfl) T.tuple bTuple rfl) pa_nil))) pa_nil))))
        (pss_cons (ps_setLc (i := 2) (own := [("part", 3)]) (g := gName 3) (tt := tYes) rfl nd rfl rfl (sw_true rfl rfl rfl (by decide +kernel)) (pi_tup (pv 1)) (blkOk_by (N := ["draws", "thing", "found", "part"]) (sc := defScope sLoose) (by decide +kernel)) (fun _ _ _ _ _ => pg_name (i := 3) nd rfl (Or.inl rfl)) (fun _ _ _ _ _ => pts_nil)
          (fun _ _ _ _ _ => pe_call G0 hr (by rfl) gF F.kp bF .nil pass0 (pa_cons (pv 0) (pa_cons (pv 3) pa_nil))))
        (pss_one (ps_ret (pe_ifExp (pt_cmpR op_eq (pe_call GD hr (by rfl) gD kD bD .nil pass0 (pa_cons (pv 0) (pa_cons pe_int pa_nil))) pe_int (nomark _)) (pv 2) (pe_callTy call_tuple_of (by rfl) T.tuple bTuple (pa_cons (pv 2) pa_nil)))))) pss_nil)
      (pss_one (ps_ret (pv 1))), ?_⟩
    have av : Any K H (.ref t) .tup := .tup ht
    refine ⟨_, rfl, by show 2 ≤ sizeLine; decide, fun tp htp => ?_⟩
    have e1 : Same H (upd H tp (.tup [.ty "list", .ty "tuple"])) := Same.new htp
    have g1 : (upd H tp (.tup [.ty "list", .ty "tuple"])) tp = some (.tup [.ty "list", .ty "tuple"]) := upd_same
    obtain ⟨ty, Sy⟩ := (av.same e1).says
    refine ⟨_, tp, _, ty, _, _, rfl, g1, .cons (.ty _) (.cons (.ty _) .nil), Sy.ty, Sy.seq, _, rfl, iteT ?_⟩
    have ht1 := e1 _ _ ht
    have S1 := S.same e1
    show tSeq _ _ _ _ (upd H tp (.tup [.ty "list", .ty "tuple"]))
    generalize upd H tp (.tup [.ty "list", .ty "tuple"]) = H1 at e1 ht1 S1 ⊢
    refine ⟨_, rfl, t, rfl, ⟨_, SqT.of ht1⟩, fun D nD => ?_⟩
    refine lc_it (walk_tup (xs := ss.map V.str)) (AccP D H1 (mapTo (ss.map V.str))) (acc_start rfl) (fun i G _ z => SqT.of (acc_same z (Same.refl H1) nD _ _ ht1)) (fun i x G G' hi z y => ?_) (fun G z => ?_)
    · obtain ⟨rfl, hx⟩ := y
      have hx0 := hx
      rw [List.getElem?_map] at hx
      obtain ⟨x, hx2, rfl⟩ := Option.map_eq_some_iff.mp hx
      refine ⟨rfl, ?_⟩
      dsimp only [tYes]
      rw [if_pos rfl]
      refine ⟨_, rfl, _, rfl, p, x, rfl, sh x (List.mem_of_getElem? hx2), fun G2 e2 => ?_⟩
      exact acc_in z e2 (mapTo_len (by rw [List.length_map, sizeLine_eq]; omega)) (mapTo_succ hx0)
    have gD : G D = some (.lst (ss.map V.str)) := by rw [z.2, mapTo_all]
    have e2 := acc_same z (Same.refl H1) nD
    clear z
    have S2 := S1.same e2
    have Dp := S1.ne nD
    have nDH := e1.free nD
    have e12 := e1.trans e2
    refine ⟨_, rfl, p, 2, n, rfl, S2, by omega, by decide, by decide, fun G2 j B2 S3 j0 j1 => ⟨rfl, _, rfl, ?_⟩⟩
    have gD2 := B2 _ _ Dp gD
    refine ite2 (fun _ => ?_) (fun _ => ?_)
    · exact ⟨_, rfl, q G2 D false ((ButS.same e12).trans B2) S3 nDH Dp gD2⟩
    · refine ⟨_, rfl, D, _, rfl, .inl ⟨SqL.of gD2, fun T nT => ?_⟩⟩
      refine q _ T true (((ButS.same e12).trans B2).trans (ButS.same (Same.new nT))) (S3.same (Same.new nT)) ?_ (S3.ne nT) upd_same
      cases w2 : H T with
      | none => rfl
      | some o =>
        have z := ((ButS.same e12).trans B2) T o (S3.ne nT) w2
        rw [nT] at z
        cases z
end
end OB
namespace OB
open PySem PySem.Spec PyProof.Rows L2 RZ LiI LamX
/-! ### the law's comparison of what is found with what is due -/
abbrev sSame : Stmt := top 38
structure TxtF (mg : Str → Option Value) : Prop where
  zip : mg "zip" = none
  set : mg "set" = none
  dict : mg "dict" = none
  any : mg "any" = none
def ItzA (tp : Bool) (K : PySem.W.Frag) (a b : Addr) : It := match tp with
  | true => ItzT K a b
  | false => Itz K a b
theorem lc_zipA {tp : Bool} {K : PySem.W.Frag} {a b : Addr} {xs ys : List V} {g : TG} {tt : TT} {te : TE} {vs : List Nat} {σ : L2.St} {H1 : Hp} {D : Addr} {Qd : Hp → Prop} {H0 : Hp} (fix : SqX tp K H0 a xs) (hl : xs.length = ys.length) (Pv : Nat → Hp → Prop) (h0 : Pv 0 (upd H1 D (.lst []))) (hq : ∀ i H, Pv i H → SqX tp K H a xs ∧ SqX tp K H b ys)
    (hs : ∀ (i : Nat) (x y : V) (T : Addr) (H : Hp), xs[i]? = some x → ys[i]? = some y → Pv i H → H T = none → g (.ref T) (wipe σ vs) (upd H T (.tup [x, y])) fun σ2 H2 => wipe σ2 vs = wipe σ vs ∧ tt σ2 H2 fun k H3 =>
      if k = true then te σ2 H3 fun v H4 => ∃ acc, H4 D = some (.lst acc) ∧ acc.length < sizeLine ∧ Pv (i + 1) (upd H4 D (.lst (acc ++ [v]))) else Pv (i + 1) H3) (hd : ∀ H, Pv xs.length H → Qd H) :
    ∃ W : Nat → Nat → Hp → Prop, (∃ m, W 0 m (upd H1 D (.lst []))) ∧ ∀ i m H, W i m H →
      ((ItzA tp K a b).stop i H ∧ Qd H) ∨ ((ItzA tp K a b).go i H ∧ ∃ Nx : Hp → Prop, (∀ H', Nx H' → ∃ m', m' < m ∧ W (i + 1) m' H') ∧ ∀ v H', (ItzA tp K a b).yld i H v H' → g v (wipe σ vs) H' fun σ2 H2 => wipe σ2 vs = wipe σ vs ∧ tt σ2 H2 fun k H3 =>
        if k = true then te σ2 H3 fun v H4 => ∃ acc, H4 D = some (.lst acc) ∧ acc.length < sizeLine ∧ Nx (upd H4 D (.lst (acc ++ [v]))) else Nx H3) := by
  refine ⟨fun i m H => m = xs.length - i ∧ i ≤ xs.length ∧ Pv i H, ⟨xs.length, rfl, Nat.zero_le _, h0⟩, ?_⟩
  rintro i m H ⟨rfl, hi, p⟩
  obtain ⟨qx, qy⟩ := hq i H p
  by_cases hlt : i < xs.length
  · have hly : i < ys.length := by omega
    have next : ∀ H', Pv (i + 1) H' → ∃ m', m' < xs.length - i ∧ (m' = xs.length - (i + 1) ∧ i + 1 ≤ xs.length ∧ Pv (i + 1) H') := fun H' p' => ⟨xs.length - (i + 1), by omega, rfl, hlt, p'⟩
    cases tp with
    | true =>
      refine .inr ⟨⟨xs, ys, xs[i], ys[i], qx, qy, List.getElem?_eq_getElem hlt, List.getElem?_eq_getElem hly⟩, Pv (i + 1), next, fun v H' y => ?_⟩
      obtain ⟨T, c, w, rfl, hT, rfl, hx, hy⟩ := y
      exact hs i c w T H (hx xs qx) (hy ys qy) p hT
    | false =>
      refine .inr ⟨⟨xs, ys, xs[i], ys[i], qx, qy, List.getElem?_eq_getElem hlt, List.getElem?_eq_getElem hly⟩, Pv (i + 1), next, fun v H' y => ?_⟩
      obtain ⟨T, c, w, rfl, hT, rfl, hx, hy⟩ := y
      exact hs i c w T H (hx xs qx) (hy ys qy) p hT
  · have e : i = xs.length := by omega
    subst e
    cases tp with
    | true => exact .inl ⟨⟨xs, ys, qx, qy, .inl (Nat.le_refl _)⟩, hd H p⟩
    | false => exact .inl ⟨⟨xs, ys, qx, qy, .inl (Nat.le_refl _)⟩, hd H p⟩
theorem zip_pick {tp : Bool} {K : PySem.W.Frag} {H : Hp} {a b : Addr} {xs ys : List V} {R : It → Hp → Prop} (hx : SqX tp K H a xs) (hy : SqX tp K H b ys) (z : R (ItzA tp K a b) H) : (SqL K H a xs ∧ SqL K H b ys ∧ R (Itz K a b) H) ∨ (SqT K H a xs ∧ SqT K H b ys ∧ R (ItzT K a b) H) := by
  cases tp with
  | true => exact .inr ⟨hx, hy, z⟩
  | false => exact .inl ⟨hx, hy, z⟩
/-- a new list of a dict's items -/
def Items (G : Hp) (p : Addr) (kvs : List (Key × V)) : Prop := ∃ ts : List Addr, G p = some (.lst (ts.map V.ref)) ∧ Paired (fun (t : Addr) (q : Key × V) => G t = some (.tup [kV q.1, q.2])) ts kvs
theorem Items.same {G G' : Hp} {p : Addr} {kvs : List (Key × V)} (h : Items G p kvs) (e : Same G G') : Items G' p kvs := by
  obtain ⟨ts, h1, h2⟩ := h
  exact ⟨ts, e _ _ h1, Paired.imp (fun t q z => e _ _ z) h2⟩
theorem Items1.same {G G' : Hp} {p : Addr} {k u : V} (h : Items1 G p k u) (e : Same G G') : Items1 G' p k u := by
  obtain ⟨t, h1, h2⟩ := h
  exact ⟨t, e _ _ h1, e _ _ h2⟩
/-- alike, its parts being alike by D -/
inductive SameW (K : PySem.W.Frag) (C : Addr) (D : Hp → V → V → Prop) (H : Hp) : V → V → Prop where
  | non : SameW K C D H .non .non
  | bl (b : Bool) : SameW K C D H (.bl b) (.bl b)
  | int (i : Int) : SameW K C D H (.int i) (.int i)
  | str {x : Str} (h : x.length ≤ 100) : SameW K C D H (.str x) (.str x)
  | land {o : Addr} {ss : List Str} {m : Int} (h : LandAt H C o (ss.map V.str) m) (hs : ∀ s ∈ ss, PyData.canLay0 (.str s) = true) : SameW K C D H (.ref o) (.ref o)
  | dct {a b : Addr} {kvs kws : List (Key × V)} (ha : H a = some (.dK kvs)) (hb : H b = some (.dK kws)) (hd : ∀ (G : Hp) (x y : Addr), ExtN H G → Items G x kvs → Items G y kws → D G (.ref x) (.ref y)) : SameW K C D H (.ref a) (.ref b)
  | odt {a : Addr} {k u : V} {kv uv : Value} (ha : H a = some (oneO a kv uv)) (rk : RelV k kv) (ru : RelV u uv) (hd : ∀ (G : Hp) (x y : Addr), ExtN H G → Items1 G x k u → Items1 G y k u → D G (.ref x) (.ref y)) : SameW K C D H (.ref a) (.ref a)
  | seq {tp : Bool} {a b : Addr} {xs ys : List V} (ha : H a = some (mkX tp xs)) (hb : H b = some (mkX tp ys)) (hl : xs.length < 1000) (hd : Paired (D H) xs ys) : SameW K C D H (.ref a) (.ref b)
def SameV (K : PySem.W.Frag) (C : Addr) : Nat → Hp → V → V → Prop
  | 0 => fun _ _ _ => False
  | d + 1 => SameW K C (SameV K C d)
theorem SameW.same {K : PySem.W.Frag} {C : Addr} {D : Hp → V → V → Prop} {H H' : Hp} {v w : V} (h : SameW K C D H v w) (e : Same H H') (st : ∀ x y, D H x y → D H' x y) : SameW K C D H' v w := by
  cases h with
  | non => exact .non
  | bl b => exact .bl b
  | int i => exact .int i
  | str q => exact .str q
  | land h hs => exact .land (h.same e) hs
  | dct ha hb hd => exact .dct (e _ _ ha) (e _ _ hb) fun G x y eG => hd G x y ((ExtN.of e).trans eG)
  | odt ha rk ru hd => exact .odt (e _ _ ha) rk ru fun G x y eG => hd G x y ((ExtN.of e).trans eG)
  | seq ha hb hl hd => exact .seq (e _ _ ha) (e _ _ hb) hl (Paired.imp st hd)
theorem SameW.ext {K : PySem.W.Frag} {C : Addr} {D : Hp → V → V → Prop} {H H' : Hp} {v w : V} (h : SameW K C D H v w) (e : ExtN H H') (st : ∀ x y, D H x y → D H' x y) : SameW K C D H' v w := by
  cases h with
  | non => exact .non
  | bl b => exact .bl b
  | int i => exact .int i
  | str q => exact .str q
  | land h hs =>
    obtain ⟨dx, T, h1, h2⟩ := h
    exact .land ⟨dx, T, e _ _ h1 (by intro ps z; cases z), e _ _ h2 (by intro ps z; cases z)⟩ hs
  | dct ha hb hd => exact .dct (e _ _ ha (by intro ps z; cases z)) (e _ _ hb (by intro ps z; cases z)) fun G x y eG => hd G x y (e.trans eG)
  | odt ha rk ru hd => exact .odt (e _ _ ha (by intro ps z; cases z)) rk ru fun G x y eG => hd G x y (e.trans eG)
  | @seq tp a b xs ys ha hb hl hd => exact .seq (e _ _ ha (by intro ps z; cases tp <;> cases z)) (e _ _ hb (by intro ps z; cases tp <;> cases z)) hl (Paired.imp st hd)
theorem SameV.ext {K : PySem.W.Frag} {C : Addr} : ∀ (d : Nat) {H H' : Hp} {v w : V}, SameV K C d H v w → ExtN H H' → SameV K C d H' v w
  | 0, _, _, _, _, h, _ => h
  | d + 1, _, _, _, _, h, e => SameW.ext h e fun _ _ q => SameV.ext d q e
theorem SameW.up {K : PySem.W.Frag} {C : Addr} {D D' : Hp → V → V → Prop} {H : Hp} {v w : V} (h : SameW K C D H v w) (u : ∀ G x y, D G x y → D' G x y) : SameW K C D' H v w := by
  cases h with
  | non => exact .non
  | bl b => exact .bl b
  | int i => exact .int i
  | str q => exact .str q
  | land h hs => exact .land h hs
  | dct ha hb hd => exact .dct ha hb fun G x y eG i j => u _ _ _ (hd G x y eG i j)
  | odt ha rk ru hd => exact .odt ha rk ru fun G x y eG i j => u _ _ _ (hd G x y eG i j)
  | seq ha hb hl hd => exact .seq ha hb hl (Paired.imp (fun x y => u _ x y) hd)
theorem SameV.up {K : PySem.W.Frag} {C : Addr} : ∀ (d : Nat) {H : Hp} {v w : V}, SameV K C d H v w → SameV K C (d + 1) H v w
  | 0, _, _, _, h => h.elim
  | d + 1, _, _, _, h => SameW.up h fun _ _ _ q => SameV.up d q
theorem SameV.same {K : PySem.W.Frag} {C : Addr} : ∀ (d : Nat) {H H' : Hp} {v w : V}, SameV K C d H v w → Same H H' → SameV K C d H' v w
  | 0, _, _, _, _, h, _ => h
  | d + 1, _, _, _, _, h, e => SameW.same h e fun _ _ q => SameV.same d q e
def spSame (D : Hp → V → V → Prop) : Sp := fun vs H Q _ => ∃ v w, vs = [v, w] ∧ D H v w ∧ ∀ H', Same H H' → Q (.bl true) H'
theorem Says6.four {K : PySem.W.Frag} {H : Hp} {v : V} {k : Kd} {t : Value} (h : Says6 K H v k t) (h1 : k.isInt = false) (h2 : k.isBl = false) (h3 : k.isLst = false) (h4 : k.isTup = false) (h5 : k.isDct = false) : PySem.W.kitAny K t [.type "int", .type "list", .type "tuple", .type "dict"] = some false := by
  have a1 := h.int
  have a2 := h.list
  have a3 := h.tuple
  have a4 := h.dict
  rw [h1, h2] at a1
  rw [h3] at a2
  rw [h4] at a3
  rw [h5] at a4
  exact kitAny_cons a1 (fun _ => kitAny_cons a2 (fun _ => kitAny_cons a3 (fun _ => kitAny_cons a4 (fun _ => rfl) fun e => by cases e) fun e => by cases e) fun e => by cases e) fun e => by cases e
/-- what the class of lands says for == -/
structure LandE (K : PySem.W.Frag) (C fE : Addr) : Prop where
  own : OwnC K C
  eq : PySem.W.findIn K (.ref C) "__eq__" = some (some (.ref fE))
  fn : PySem.W.isFn K (.ref fE) = true
  nfC : PySem.W.notFirst K C (.ref C) = true
  kit : PySem.W.kitOne K (.ref C) (.ref C) = some true
section
variable {P : Program} {w : World} {K : PySem.W.Frag} {mg : Str → Option Value} {base : Heap}
theorem scSame : FnScope ["found", "due", "x", "y"] ["found", "due"] (defScope sSame) := ⟨rfl, rfl, rfl, by decide +kernel, rfl, by decide +kernel, by decide +kernel⟩
theorem ok_sameS {f fE C : Addr} {fd fdE : FuncData} {d : Nat} {D : Hp → V → V → Prop} (F : Fun K "_law_same" "_law_same" sSame f fd) (gF : mg "_law_same" = some (.ref f)) (T : TxtC mg) (TF : TxtF mg) (LE : LandE K C fE) (GE : FnOk P w K mg base CX0 1 fE fdE ["self", "other"] (spLandEq K C)) (bE : Binds K fdE ["self", "other"] [])
    (G : FnOk P w K mg base CX0 (d + 1) f fd ["found", "due"] (spSame D)) (bF : Binds K fd ["found", "due"] []) (dst : ∀ {H H' : Hp} {v w : V}, D H v w → Same H H' → D H' v w) : FnOk P w K mg base CX0 (d + 2) f fd ["found", "due"] (spSame (SameW K C D)) := by
  refine F.ok scSame (fun vs H Q E h => ?_) (fun cdv A outer s H vs Q E hr h => ?_)
  · obtain ⟨v, w, rfl, _⟩ := h
    rfl
  · obtain ⟨v, u, rfl, hw, q⟩ := h
    have nd := scSame.nd
    refine ⟨_, pss_cons (ps_if (pt_val (pe_callB call_isAT (by rfl) T.isi bootIsi (pa_cons (pv 1) (pa_cons (pe_tup (pa_cons (pe_bltn (v := .ty "list") (u := .type "list") (by rfl) T.list bList rfl) (pa_cons (pe_bltn (v := .ty "tuple") (u := .type "tuple") (by rfl) T.tuple bTuple rfl) pa_nil))) pa_nil))))
        (pss_cons (ps_if (PW.pt (pw_or (pt_cmpR op_ne (pe_callB call_isA (by rfl) T.isi bootIsi (pa_cons (pv 0) (pa_cons (pe_bltn (v := .ty "list") (u := .type "list") (by rfl) T.list bList rfl) pa_nil))) (pe_callB call_isA (by rfl) T.isi bootIsi (pa_cons (pv 1) (pa_cons (pe_bltn (v := .ty "list") (u := .type "list") (by rfl) T.list bList rfl) pa_nil))) (nomark _))
            (pw_or1 (pt_cmpR op_ne (pe_callB call_isA (by rfl) T.isi bootIsi (pa_cons (pv 0) (pa_cons (pe_bltn (v := .ty "tuple") (u := .type "tuple") (by rfl) T.tuple bTuple rfl) pa_nil))) (pe_callB call_isA (by rfl) T.isi bootIsi (pa_cons (pv 1) (pa_cons (pe_bltn (v := .ty "tuple") (u := .type "tuple") (by rfl) T.tuple bTuple rfl) pa_nil))) (nomark _)))))
          (pss_one (ps_ret pe_bl)) pss_nil)
        (pss_one (ps_ret (pe_and (pe_cmpR op_eq (pe_callB call_len_seq (by rfl) T.len PySem.boot_len (pa_cons (pv 0) pa_nil)) (pe_callB call_len_seq (by rfl) T.len PySem.boot_len (pa_cons (pv 1) pa_nil)) (nomark _))
          (pe_one (pe_callB (cr_all rfl) (by rfl) T.all (by decide +kernel) (pa_cons (pe_lc (own := [("x", 2), ("y", 3)]) (g := gTup K 2 (gCons (gName 2) (gCons (gName 3) gNil))) (tt := tYes) rfl nd (pi_zipA (by rfl) TF.zip (pa_cons (pv 0) (pa_cons (pv 1) pa_nil)))
            (blkOk_by (N := ["found", "due", "x", "y"]) (sc := defScope sSame) (by decide +kernel))
            (fun _ _ _ _ _ => pg_tup rfl (pgs_cons (pg_name (i := 2) nd rfl (Or.inl rfl)) (pgs_cons (pg_name (i := 3) nd rfl (Or.inl rfl)) pgs_nil))) (fun _ _ _ _ _ => pts_nil)
            (fun _ _ _ _ _ => pe_call G hr (by rfl) gF F.kp bF .nil pass0 (pa_cons (pv 2) (pa_cons (pv 3) pa_nil)))) pa_nil))))))) pss_nil)
      (pss_cons (ps_if (pt_val (pe_callB call_isA (by rfl) T.isi bootIsi (pa_cons (pv 1) (pa_cons (pe_bltn (v := .ty "dict") (u := .type "dict") (by rfl) TF.dict bDict rfl) pa_nil))))
        (pss_one (ps_ret (pe_and (pe_callB call_isA (by rfl) T.isi bootIsi (pa_cons (pv 0) (pa_cons (pe_bltn (v := .ty "dict") (u := .type "dict") (by rfl) TF.dict bDict rfl) pa_nil)))
          (pe_one (pe_call G hr (by rfl) gF F.kp bF .nil pass0 (pa_cons (pe_either (pe_listItems rfl (pv 0) (by rfl) T.list (by decide +kernel)) (pe_items1 rfl (pv 0) (by rfl) T.list (by decide +kernel))) (pa_cons (pe_either (pe_listItems rfl (pv 1) (by rfl) T.list (by decide +kernel)) (pe_items1 rfl (pv 1) (by rfl) T.list (by decide +kernel))) pa_nil))))))) pss_nil)
      (pss_cons (ps_if (pt_val (pe_callB call_isA (by rfl) T.isi bootIsi (pa_cons (pv 1) (pa_cons (pe_bltn (v := .ty "int") (u := .type "int") (by rfl) T.int bInt rfl) pa_nil))))
        (pss_one (ps_ret (pe_and (pe_callB call_isA (by rfl) T.isi bootIsi (pa_cons (pv 0) (pa_cons (pe_bltn (v := .ty "int") (u := .type "int") (by rfl) T.int bInt rfl) pa_nil)))
          (pe_and (pe_cmpR op_eq (pe_callB call_isA (by rfl) T.isi bootIsi (pa_cons (pv 0) (pa_cons (pe_bltn (v := .ty "bool") (u := .type "bool") (by rfl) T.bool bBool rfl) pa_nil))) (pe_callB call_isA (by rfl) T.isi bootIsi (pa_cons (pv 1) (pa_cons (pe_bltn (v := .ty "bool") (u := .type "bool") (by rfl) T.bool bBool rfl) pa_nil))) (nomark _))
          (pe_one (pe_cmpR op_eq (pv 0) (pv 1) (nomark _))))))) pss_nil)
      (pss_one (ps_ret (pe_and (pe_not (pe_callB call_isAT (by rfl) T.isi bootIsi (pa_cons (pv 0) (pa_cons (pe_tup (pa_cons (pe_bltn (v := .ty "int") (u := .type "int") (by rfl) T.int bInt rfl) (pa_cons (pe_bltn (v := .ty "list") (u := .type "list") (by rfl) T.list bList rfl) (pa_cons (pe_bltn (v := .ty "tuple") (u := .type "tuple") (by rfl) T.tuple bTuple rfl) (pa_cons (pe_bltn (v := .ty "dict") (u := .type "dict") (by rfl) TF.dict bDict rfl) pa_nil))))) pa_nil))))
        (pe_one (pe_cmpR (op_eq.or (op_eqO GE (hr.mono (Nat.succ_le_succ (Nat.zero_le d))) LE.eq LE.fn bE)) (pv 0) (pv 1) (nomark _)))))))), ?_⟩
    have key : (∃ k, Any K H v k ∧ Any K H u k ∧ k.isLst = false ∧ k.isTup = false ∧ k.isDct = false ∧ k.isBl = false ∧ k.isInt = false ∧ ∀ G, Same H G → rEq v u G Q ∨ rEqO K C (spLandEq K C) v u G Q) ∨ (∃ k, Any K H v k ∧ u = v ∧ k.isLst = false ∧ k.isTup = false ∧ k.isDct = false ∧ (k.isInt || k.isBl) = true ∧ scal v v = true) ∨
        (∃ a b, v = .ref a ∧ u = .ref b ∧ Any K H v .dct ∧ Any K H u .dct ∧ ((∃ kvs kws, H a = some (.dK kvs) ∧ H b = some (.dK kws) ∧ ∀ (G : Hp) (x y : Addr), ExtN H G → Items G x kvs → Items G y kws → D G (.ref x) (.ref y)) ∨ ∃ k u kv uv, a = b ∧ H a = some (oneO a kv uv) ∧ RelV k kv ∧ RelV u uv ∧ ∀ (G : Hp) (x y : Addr), ExtN H G → Items1 G x k u → Items1 G y k u → D G (.ref x) (.ref y))) ∨
        (∃ (tp : Bool) (a b : Addr) (xs ys : List V), v = .ref a ∧ u = .ref b ∧ H a = some (mkX tp xs) ∧ H b = some (mkX tp ys) ∧ xs.length < 1000 ∧ Paired (D H) xs ys) := by
      cases hw with
      | non => exact .inl ⟨.non, .non, .non, rfl, rfl, rfl, rfl, rfl, fun G e => .inl ⟨rfl, by rw [decide_eq_true rfl]; exact q G e⟩⟩
      | str hx => exact .inl ⟨.str, .str hx, .str hx, rfl, rfl, rfl, rfl, rfl, fun G e => .inl ⟨rfl, by rw [decide_eq_true rfl]; exact q G e⟩⟩
      | int i => exact .inr (.inl ⟨.int, .int i, rfl, rfl, rfl, rfl, rfl, rfl⟩)
      | bl b => exact .inr (.inl ⟨.bl, .bl b, rfl, rfl, rfl, rfl, rfl, rfl⟩)
      | @land o ss m h hs =>
        obtain ⟨dx, TT, h1, h2⟩ := id h
        refine .inl ⟨.ins, .ins h1 LE.own, .ins h1 LE.own, rfl, rfl, rfl, rfl, rfl, fun G e => .inr ⟨o, dx, _, .ref C, rfl, e _ _ h1, tyA_ins (e _ _ h1) LE.own, LE.nfC, o, ss, m, .ref o, .ref C, rfl, h.same e, hs, tyA_ins (e _ _ h1) LE.own, .inl ⟨o, ss, m, rfl, h.same e, hs, LE.kit, _, rfl, ?_⟩⟩⟩
        rw [decide_eq_true ⟨rfl, rfl⟩]
        exact q G e
      | dct ha hb hd => exact .inr (.inr (.inl ⟨_, _, rfl, rfl, .dct ha, .dct hb, .inl ⟨_, _, ha, hb, hd⟩⟩))
      | odt ha rk ru hd => exact .inr (.inr (.inl ⟨_, _, rfl, rfl, .odt ha oneD_cls, .odt ha oneD_cls, .inr ⟨_, _, _, _, rfl, ha, rk, ru, hd⟩⟩))
      | seq ha hb hl hd => exact .inr (.inr (.inr ⟨_, _, _, _, _, rfl, rfl, ha, hb, hl, hd⟩))
    refine ⟨_, rfl, by show 2 ≤ sizeLine; decide, fun tt ntt => ?_⟩
    have e1 : Same H (upd H tt (.tup [.ty "list", .ty "tuple"])) := Same.new ntt
    have g1 : (upd H tt (.tup [.ty "list", .ty "tuple"])) tt = some (.tup [.ty "list", .ty "tuple"]) := upd_same
    generalize upd H tt (.tup [.ty "list", .ty "tuple"]) = H1 at e1 g1 ⊢
    rcases key with ⟨k, av, au, k1, k2, k3, k4, k5, fin⟩ | ⟨k, av, rfl, k1, k2, k3, k4, sc⟩ | ⟨a, b, rfl, rfl, av, au, hd⟩ | ⟨tp, a, b, xs, ys, rfl, rfl, ha, hb, hl, hd⟩
    · obtain ⟨tu, U⟩ := (au.same e1).says
      refine ⟨u, tt, _, tu, _, _, rfl, g1, .cons (.ty _) (.cons (.ty _) .nil), U.ty, U.seq, _, rfl, ?_⟩
      rw [k1, k2]
      refine iteF ⟨_, rfl, u, .ty "dict", tu, .type "dict", _, rfl, .ty _, U.ty, U.dict, _, rfl, ?_⟩
      rw [k3]
      refine iteF ⟨_, rfl, u, .ty "int", tu, .type "int", _, rfl, .ty _, U.ty, U.int, _, rfl, ?_⟩
      rw [k4, k5]
      refine iteF ⟨_, rfl, by show 4 ≤ sizeLine; decide, fun t3 n3 => ?_⟩
      have e2 : Same H (upd H1 t3 (.tup [.ty "int", .ty "list", .ty "tuple", .ty "dict"])) := e1.trans (Same.new n3)
      obtain ⟨tw, W2⟩ := (av.same e2).says
      exact ⟨v, t3, _, tw, _, _, rfl, upd_same, .cons (.ty _) (.cons (.ty _) (.cons (.ty _) (.cons (.ty _) .nil))), W2.ty, W2.four k5 k4 k1 k2 k3, _, rfl, _, rfl, iteT ⟨_, rfl, _, rfl, fin _ e2⟩⟩
    · obtain ⟨tu, U⟩ := (av.same e1).says
      refine ⟨_, tt, _, tu, _, _, rfl, g1, .cons (.ty _) (.cons (.ty _) .nil), U.ty, U.seq, _, rfl, ?_⟩
      rw [k1, k2]
      refine iteF ⟨_, rfl, _, .ty "dict", tu, .type "dict", _, rfl, .ty _, U.ty, U.dict, _, rfl, ?_⟩
      rw [k3]
      refine iteF ⟨_, rfl, _, .ty "int", tu, .type "int", _, rfl, .ty _, U.ty, U.int, _, rfl, ?_⟩
      rw [k4]
      refine iteT ⟨_, rfl, _, .ty "int", tu, .type "int", _, rfl, .ty _, U.ty, U.int, _, rfl, ?_⟩
      rw [k4]
      refine iteT ⟨_, rfl, _, .ty "bool", tu, .type "bool", _, rfl, .ty _, U.ty, U.bool, _, rfl, _, .ty "bool", tu, .type "bool", _, rfl, .ty _, U.ty, U.bool, rfl, ?_⟩
      rw [decide_eq_true rfl]
      refine ⟨_, rfl, iteT ⟨_, rfl, _, rfl, sc, ?_⟩⟩
      rw [decide_eq_true rfl]
      exact q _ e1
    · obtain ⟨tu, U⟩ := (au.same e1).says
      obtain ⟨tv, W⟩ := (av.same e1).says
      refine ⟨_, tt, _, tu, _, _, rfl, g1, .cons (.ty _) (.cons (.ty _) .nil), U.ty, U.seq, _, rfl, ?_⟩
      refine iteF ⟨_, rfl, _, .ty "dict", tu, .type "dict", _, rfl, .ty _, U.ty, U.dict, _, rfl, ?_⟩
      refine iteT ⟨_, rfl, _, .ty "dict", tv, .type "dict", _, rfl, .ty _, W.ty, W.dict, _, rfl, ?_⟩
      rcases hd with ⟨kvs, kws, ha, hb, hd⟩ | ⟨k, u, kv, uv, rfl, ha, rk, ru, hd⟩
      · refine iteT (.inl ⟨_, rfl, a, kvs, rfl, e1 _ _ ha, fun H2 p ts e2 np _ _ gp pr => .inl ⟨_, rfl, b, kws, rfl, e2 _ _ (e1 _ _ hb), fun H3 p2 ts2 e3 np2 _ _ gp2 pr2 => ?_⟩⟩)
        have i1 : Items H2 p kvs := ⟨ts, gp, pr⟩
        exact ⟨_, _, rfl, hd H3 p p2 (ExtN.of ((e1.trans e2).trans e3)) (i1.same e3) ⟨ts2, gp2, pr2⟩, fun H4 e4 => q H4 (((e1.trans e2).trans e3).trans e4)⟩
      · refine iteT (.inr ⟨_, rfl, a, k, u, kv, uv, rfl, e1 _ _ ha, rk, ru, fun H2 p e2 np i1 => .inr ⟨_, rfl, a, k, u, kv, uv, rfl, e2 _ _ (e1 _ _ ha), rk, ru, fun H3 p2 e3 np2 i2 => ?_⟩⟩)
        exact ⟨_, _, rfl, hd H3 p p2 (ExtN.of ((e1.trans e2).trans e3)) (i1.same e3) i2, fun H4 e4 => q H4 (((e1.trans e2).trans e3).trans e4)⟩
    · have au : Any K H (.ref b) (if tp = true then .tup else .lst) := by
        cases tp with
        | true => exact .tup hb
        | false => exact .lst hb
      have av : Any K H (.ref a) (if tp = true then .tup else .lst) := by
        cases tp with
        | true => exact .tup ha
        | false => exact .lst ha
      obtain ⟨tu, U⟩ := (au.same e1).says
      obtain ⟨tv, W⟩ := (av.same e1).says
      have k1 : ((if tp = true then Kd.tup else Kd.lst).isLst || (if tp = true then Kd.tup else Kd.lst).isTup) = true := by cases tp <;> rfl
      refine ⟨_, tt, _, tu, _, _, rfl, g1, .cons (.ty _) (.cons (.ty _) .nil), U.ty, U.seq, _, rfl, ?_⟩
      rw [k1]
      refine iteT ⟨_, rfl, _, .ty "list", tv, .type "list", _, rfl, .ty _, W.ty, W.list, _, rfl, _, .ty "list", tu, .type "list", _, rfl, .ty _, U.ty, U.list, rfl, _, rfl, ?_⟩
      rw [decide_eq_true rfl]
      refine iteF ⟨_, rfl, _, .ty "tuple", tv, .type "tuple", _, rfl, .ty _, W.ty, W.tuple, _, rfl, _, .ty "tuple", tu, .type "tuple", _, rfl, .ty _, U.ty, U.tuple, rfl, _, rfl, ?_⟩
      rw [decide_eq_true rfl]
      have hxa : SqX tp K H1 a xs := SqX.at (e1 _ _ ha)
      have hxb : SqX tp K H1 b ys := SqX.at (e1 _ _ hb)
      have hlen := hd.length
      refine iteF ⟨_, rfl, a, xs, rfl, hxa.or, _, rfl, b, ys, rfl, hxb.or, rfl, _, rfl, ?_⟩
      rw [hlen, decide_eq_true rfl]
      refine iteT ⟨_, rfl, _, rfl, a, b, xs, ys, rfl, ?_⟩
      cases tp
      all_goals first | refine .inl ⟨hxa, hxb, ?_⟩ | refine .inr ⟨hxa, hxb, ?_⟩
      all_goals
        intro D2 nD
        have nD0 : H D2 = none := e1.free nD
        refine lc_zipA hxa hlen (fun i G => (∀ c o, c ≠ D2 → H1 c = some o → G c = some o) ∧ G D2 = some (.lst ((xs.take i).map fun _ => V.bl true))) ⟨fun c o nb e => by rw [upd_ne nb]; exact e, by rw [upd_same]; rfl⟩ (fun i G q => ?_) (fun i x y TT G hx hy ⟨k1, k2⟩ nT => ?_) (fun G ⟨k1, k2⟩ => ?_)
        · have eG : Same H G := fun c o e => q.1 c o (ne_of_none e nD0) (e1 _ _ e)
          exact ⟨SqX.at (eG _ _ ha), SqX.at (eG _ _ hb)⟩
        · refine ⟨TT, _, rfl, SqT.of upd_same, rfl, x, _, rfl, y, _, rfl, rfl, rfl, ?_⟩
          dsimp only [tYes]
          rw [if_pos rfl]
          obtain ⟨y2, hy2, dd⟩ := L2.paired_get hd hx
          rw [hy] at hy2
          cases hy2
          have eG : Same H (upd G TT (.tup [x, y])) := fun c o e => by
            have z1 := k1 c o (ne_of_none e nD0) (e1 _ _ e)
            rw [upd_ne (ne_of_none z1 nT)]
            exact z1
          refine ⟨_, rfl, _, rfl, x, y, rfl, dst dd eG, fun G2 e2 => ?_⟩
          refine ⟨_, e2 _ _ (Same.new nT _ _ k2), ?_, fun c o nb e => ?_, ?_⟩
          · rw [List.length_map, List.length_take, sizeLine_eq]
            omega
          · rw [upd_ne nb]
            exact e2 _ _ (Same.new nT _ _ (k1 c o nb e))
          · rw [upd_same, List.take_add_one, hx, List.map_append]
            rfl
        · rw [List.take_length] at k2
          have e2 : Same H G := fun c o e => k1 c o (ne_of_none e nD0) (e1 _ _ e)
          refine ⟨D2, xs.map fun _ => true, rfl, SqL.of (by rw [k2, List.map_map]; rfl), ?_⟩
          have all : (xs.map fun _ => true).all id = true := by
            rw [List.all_map]
            exact List.all_eq_true.mpr fun _ _ => rfl
          rw [all]
          exact q G e2
/-- every depth -/
theorem ok_same {f fE C : Addr} {fd fdE : FuncData} (F : Fun K "_law_same" "_law_same" sSame f fd) (gF : mg "_law_same" = some (.ref f)) (T : TxtC mg) (TF : TxtF mg) (LE : LandE K C fE) (GE : FnOk P w K mg base CX0 1 fE fdE ["self", "other"] (spLandEq K C)) (bE : Binds K fdE ["self", "other"] [])
    (bF : Binds K fd ["found", "due"] []) : ∀ d, FnOk P w K mg base CX0 (d + 1) f fd ["found", "due"] (spSame (SameV K C d))
  | 0 => F.ok scSame (fun vs H Q E h => by
      obtain ⟨_, _, _, z, _⟩ := h
      exact z.elim) (fun cdv A outer s H vs Q E hr h => by
      obtain ⟨_, _, _, z, _⟩ := h
      exact z.elim)
  | d + 1 => ok_sameS F gF T TF LE GE bE (ok_same F gF T TF LE GE bE bF d) bF fun h e => SameV.same d h e
end
end OB
namespace OB
open PySem PySem.Spec PyProof.Rows L2 RZ
/-! ### whether a thing is a ring -/
abbrev sIsRing : Stmt := top 46
theorem rot_at {rs : List Str} {i : Nat} {x y : Str} (hx : rs[i]? = some x) (hy : (rs.drop 1 ++ rs.take 1)[i]? = some y) : (rs[i + 1]? = some y) ∨ (i = rs.length - 1 ∧ rs[0]? = some y) := by
  have li : i < rs.length := (List.getElem?_eq_some_iff.mp hx).1
  by_cases z : i + 1 < rs.length
  · left
    rw [List.getElem?_append_left (by rw [List.length_drop]; omega), List.getElem?_drop] at hy
    rw [← hy]
    congr 1
    omega
  · right
    refine ⟨by omega, ?_⟩
    rw [List.getElem?_append_right (by rw [List.length_drop]; omega), List.length_drop] at hy
    have e : i - (rs.length - 1) = 0 := by omega
    rw [e, List.getElem?_take] at hy
    simpa using hy
theorem ring_next {sc : Str → List Str} {rs : List Str} (h : BK.Ring sc rs) {i : Nat} {x y : Str} (hx : rs[i]? = some x) (hy : (rs.drop 1 ++ rs.take 1)[i]? = some y) : y ∈ sc x := by
  rcases rot_at hx hy with z | ⟨z1, z2⟩
  · exact h.next i x y hx z
  · rw [z1] at hx
    exact h.back x y hx z2
def spIsRing : Sp := fun vs H Q _ => ∃ (b D : Addr) (ad : Str) (ns rs : List Str) (sc : Str → Option (List Str)), vs = [.ref b, .str ad, .ref D] ∧ BookAt H b sc ∧ BookN ns sc ∧ ad ∈ ns ∧ H D = some (.lst (rs.map V.str)) ∧ BK.Ring (scF sc) rs ∧ 2 ≤ rs.length ∧ rs.length ≤ 100 ∧ (∀ x ∈ rs, x ∈ ns) ∧ (∀ x ∈ rs, BK.Rch (scF sc) ad x) ∧ ∀ H', Same H H' → Q (.bl true) H'
section
variable {P : Program} {w : World} {K : PySem.W.Frag} {mg : Str → Option Value} {base : Heap}
theorem scIsRing : FnScope ["book", "address", "told", "one", "other"] ["book", "address", "told"] (defScope sIsRing) := ⟨rfl, rfl, rfl, by decide +kernel, rfl, by decide +kernel, by decide +kernel⟩
theorem ok_isRing {f fR : Addr} {fd fdR : FuncData} (F : Fun K "_law_is_ring" "_law_is_ring" sIsRing f fd) (T : TxtC mg) (TF : TxtF mg)
    (GR : FnOk P w K mg base CX0 1 fR fdR ["book", "address"] spCome) (gR : mg "_law_reach" = some (.ref fR)) (kR : PySem.W.keepIn K (.ref fR) = true) (bR : Binds K fdR ["book", "address"] []) : FnOk P w K mg base CX0 2 f fd ["book", "address", "told"] spIsRing := by
  refine F.ok scIsRing (fun vs H Q E h => ?_) (fun cdv A outer s H vs Q E hr h => ?_)
  · obtain ⟨b, D, ad, ns, rs, sc, rfl, _⟩ := h
    rfl
  · obtain ⟨b, D, ad, ns, rs, sc, rfl, bk, bn, adn, gD, ring, l2, l100, rsub, rr, q⟩ := h
    have nd := scIsRing.nd
    have hun := hr.units
    refine ⟨_, pss_cons (ps_if (PW.pt (pw_or (pt_not (pt_val (pe_callB call_isA (by rfl) T.isi bootIsi (pa_cons (pv 2) (pa_cons (pe_bltn (v := .ty "list") (u := .type "list") (by rfl) T.list bList rfl) pa_nil)))))
          (pw_or (pt_cmpR op_lt (pe_callB call_len_seq (by rfl) T.len PySem.boot_len (pa_cons (pv 2) pa_nil)) pe_int (nomark _))
          (pw_or1 (pt_cmpR op_lt (pe_lenX rfl (by rfl) T.len (by rfl) TF.set (pv 2)) (pe_callB call_len_seq (by rfl) T.len PySem.boot_len (pa_cons (pv 2) pa_nil)) (nomark _)))))) (pss_one (ps_ret pe_bl)) pss_nil)
      (pss_cons (ps_if (pt_not (pt_val (pe_callB (cr_all rfl) (by rfl) T.all (by decide +kernel) (pa_cons (pe_lc (own := [("one", 3), ("other", 4)]) (g := gTup K 2 (gCons (gName 3) (gCons (gName 4) gNil))) (tt := tYes) rfl nd (pi_zipA (by rfl) TF.zip (pa_cons (pv 2) (pa_cons (pe_op op_cat (pe_slice sl_list (pv 2) (po_some pe_int) po_none) (pe_slice sl_list (pv 2) po_none (po_some pe_int))) pa_nil)))
            (blkOk_by (N := ["book", "address", "told", "one", "other"]) (sc := defScope sIsRing) (by decide +kernel))
            (fun _ _ _ _ _ => pg_tup rfl (pgs_cons (pg_name (i := 3) nd rfl (Or.inl rfl)) (pgs_cons (pg_name (i := 4) nd rfl (Or.inl rfl)) pgs_nil))) (fun _ _ _ _ _ => pts_nil)
            (fun _ _ _ _ _ => pe_cmpR (op_inK (K := K) rfl) (pv 4) (pe_dget2 (Nat.lt_of_le_of_lt (Nat.add_le_add_left (by decide : 1 ≤ 64) _) hun) (pv 0) (pv 3) (pe_tup pa_nil) ⟨by rfl, by rfl, by rfl, by rfl⟩) (by rfl))) pa_nil)))) (pss_one (ps_ret pe_bl)) pss_nil)
      (pss_one (ps_ret (pe_cmpR op_in_seq (pe_ix ix_list (pv 2) pe_int (fun _ _ => rfl)) (pe_call GR hr (by rfl) gR kR bR .nil pass0 (pa_cons (pv 0) (pa_cons (pv 1) pa_nil))) (by rfl))))), ?_⟩
    have av : Any K H (.ref D) .lst := .lst gD
    obtain ⟨t, S⟩ := av.says
    have lr : (rs.map V.str).length = rs.length := List.length_map ..
    refine ⟨_, rfl, .ref D, .ty "list", t, .type "list", _, rfl, .ty _, S.ty, S.list, _, rfl, iteF ?_⟩
    refine ⟨_, rfl, D, _, rfl, .inl (SqL.of gD), _, 2, rfl, rfl, _, rfl, ?_⟩
    rw [lr, decide_eq_false (by omega)]
    refine iteF ⟨_, rfl, false, D, rs, rfl, SqL.of gD, by omega, _, rfl, D, _, rfl, .inl (SqL.of gD), _, _, rfl, rfl, _, rfl, ?_⟩
    have fw : few rs rs.length = rs.length := (few_nodup rs).mpr ring.nd
    rw [lr, fw, decide_eq_false (by omega)]
    refine iteF ?_
    refine ⟨_, rfl, _, rfl, 1, rfl, D, _, rfl, SqL.of gD, fun A1 nA1 => ?_⟩
    rw [show cutV (rs.map V.str) (some 1) none = (rs.drop 1).map V.str from (cut_from (rs.map V.str) 1 (by rw [lr]; omega)).trans (by rw [← List.map_drop])]
    have e1 : Same H (upd H A1 (.lst ((rs.drop 1).map V.str))) := Same.new nA1
    have g1 : (upd H A1 (.lst ((rs.drop 1).map V.str))) A1 = some (.lst ((rs.drop 1).map V.str)) := upd_same
    generalize upd H A1 (.lst ((rs.drop 1).map V.str)) = H1 at e1 g1
    refine ⟨_, rfl, 1, rfl, D, _, rfl, SqL.of (e1 _ _ gD), fun A2 nA2 => ?_⟩
    rw [show cutV (rs.map V.str) none (some 1) = (rs.take 1).map V.str from (cut_to (rs.map V.str) 1 (by rw [lr]; omega)).trans (by rw [← List.map_take])]
    have e2 : Same H1 (upd H1 A2 (.lst ((rs.take 1).map V.str))) := Same.new nA2
    have g2 : (upd H1 A2 (.lst ((rs.take 1).map V.str))) A2 = some (.lst ((rs.take 1).map V.str)) := upd_same
    generalize upd H1 A2 (.lst ((rs.take 1).map V.str)) = H2 at e2 g2
    refine ⟨A1, A2, _, _, rfl, rfl, e2 _ _ g1, g2, by rw [List.length_map, List.length_map, List.length_drop, List.length_take, sizeLine_eq]; omega, fun A3 nA3 => ?_⟩
    rw [← List.map_append]
    have e3 : Same H2 (upd H2 A3 (.lst ((rs.drop 1 ++ rs.take 1).map V.str))) := Same.new nA3
    have g3 : (upd H2 A3 (.lst ((rs.drop 1 ++ rs.take 1).map V.str))) A3 = some (.lst ((rs.drop 1 ++ rs.take 1).map V.str)) := upd_same
    have e03 := (e1.trans e2).trans e3
    generalize upd H2 A3 (.lst ((rs.drop 1 ++ rs.take 1).map V.str)) = H3 at e3 g3 e03
    have gD3 := e03 _ _ gD
    have hxa : SqX false K H3 D (rs.map V.str) := SqL.of gD3
    have hxb : SqX false K H3 A3 ((rs.drop 1 ++ rs.take 1).map V.str) := SqL.of g3
    have hlen : (rs.map V.str).length = ((rs.drop 1 ++ rs.take 1).map V.str).length := by rw [List.length_map, List.length_map, List.length_append, List.length_drop, List.length_take]; omega
    refine ⟨D, A3, _, _, rfl, .inl ⟨hxa, hxb, fun B nB => ?_⟩⟩
    refine lc_zipA (tp := false) hxa hlen (fun i G => Same H3 G ∧ G B = some (.lst ((rs.take i).map fun _ => V.bl true))) ⟨Same.new nB, by rw [upd_same] <;> rfl⟩ (fun i G q => ⟨hxa.same q.1, hxb.same q.1⟩) (fun i vx vy TT G hx hy ⟨eG, k2⟩ nT => ?_) (fun G ⟨eG, k2⟩ => ?_)
    · rw [List.getElem?_map] at hx hy
      obtain ⟨x, hx2, rfl⟩ := Option.map_eq_some_iff.mp hx
      obtain ⟨y, hy2, rfl⟩ := Option.map_eq_some_iff.mp hy
      have mem := ring_next ring hx2 hy2
      have e4 : Same H3 (upd G TT (.tup [.str x, .str y])) := eG.trans (Same.new nT)
      have k4 := Same.new (u := .tup [.str x, .str y]) nT _ _ k2
      refine ⟨TT, _, rfl, SqT.of upd_same, rfl, .str x, _, rfl, .str y, _, rfl, rfl, rfl, ?_⟩
      dsimp only [tYes]
      rw [if_pos rfl]
      generalize upd G TT (.tup [.str x, .str y]) = G4 at e4 k4 ⊢
      have e04 := e03.trans e4
      obtain ⟨kvs, hk, hb⟩ := bk.same e04
      refine ⟨_, rfl, _, rfl, b, rfl, .inl ⟨_, .of hk⟩, _, rfl, Nat.zero_le _, fun Tt nTt => ?_⟩
      have eT : Same G4 (upd G4 Tt (.tup [])) := Same.new nTt
      have mt : ∃ ta, (valV kvs (.inr x)).getD (.ref Tt) = .ref ta ∧ (upd G4 Tt (.tup [])) ta = some (.tup ((scF sc x).map V.str)) := mid_tup (R := fun G => ∃ ta, (valV kvs (.inr x)).getD (.ref Tt) = .ref ta ∧ G ta = some (.tup ((scF sc x).map V.str))) hk hb nTt fun G2 ta e2 hv gta => ⟨ta, hv, gta⟩
      show ∃ o, DGet (upd G4 Tt (.tup [])) b (.str x) o ∧ _
      generalize upd G4 Tt (.tup []) = G5 at eT mt ⊢
      obtain ⟨ta, hv, gta⟩ := mt
      have e5 := eT
      refine ⟨valV kvs (.inr x), .inl ⟨kvs, .inr x, .of (e5 _ _ hk), rfl, rfl⟩, ta, _, hv, .inr (SqT.of gta), rfl, flat_txt (scF sc x), ?_⟩
      have ei : inV (.str y) ((scF sc x).map V.str) = true := by rw [inV_txt, decide_eq_true mem]
      show ∃ a, _ ∧ _ ∧ _
      rw [ei]
      refine ⟨_, e5 _ _ k4, by rw [List.length_map, List.length_take, sizeLine_eq]; omega, fun c o ec => ?_, ?_⟩
      · rw [upd_ne (ne_of_none ec nB)]
        exact e5 _ _ (e4 _ _ ec)
      · rw [upd_same, List.take_add_one, hx2, List.map_append] <;> rfl
    · rw [lr, List.take_length] at k2
      have e04 := e03.trans eG
      have all : (rs.map fun _ => true).all id = true := by
        rw [List.all_map]
        exact List.all_eq_true.mpr fun _ _ => rfl
      refine ⟨B, rs.map fun _ => true, rfl, SqL.of (by rw [k2, List.map_map] <;> rfl), _, rfl, ?_⟩
      rw [all]
      have h0 : rs[0]? = some rs[0] := List.getElem?_eq_getElem (by omega)
      refine iteF ⟨_, rfl, D, _, ((0 : Nat) : Int), .str rs[0], rfl, rfl, SqL.of (e04 _ _ gD), atI_nat (by rw [List.getElem?_map, h0] <;> rfl), _, rfl, _, rfl, b, ad, ns, sc, rfl, bk.same e04, bn, adn, fun H6 M met e6 nM ma ms gM => ⟨M, _, rfl, .inl (SqL.of gM), rfl, flat_txt met, ?_⟩⟩
      have ei : inV (.str rs[0]) (met.map V.str) = true := by rw [inV_txt, decide_eq_true ((ma.iff _).mpr (rr _ (List.mem_of_getElem? h0)))]
      show Q (.bl (inV (.str rs[0]) (met.map V.str))) H6
      rw [ei]
      exact q _ (e04.trans e6)
end
end OB
namespace OB
open PySem PySem.Spec PyProof.Rows L2
/-! ### try .. except X as n .. with any number of clauses: one of them always -/
def unS (i : Nat) (D : Ends) : Ends := { nx := fun σ' G => D.nx (σ'.set i none) G, rt := D.rt, bk := fun σ' G => D.bk (σ'.set i none) G, ct := fun σ' G => D.ct (σ'.set i none) G }
def wAs (K : PySem.W.Frag) (i : Nat) (D : Ends) : List (Value × (Addr → Value → Option Addr → TS)) → WX
  | [] => fun _ _ _ _ => False
  | (c, ts) :: r => fun cls d σ H => (PySem.W.exmOne K cls c = some true ∧ ∀ a, H a = none → i < σ.length → ts a cls d (unS i D) (σ.set i (some (.ref a))) H) ∨ (PySem.W.exmOne K cls c = some false ∧ wAs K i D r cls d σ H)
inductive HdsAs (X : Cx) (n : Str) : List ExceptHandler → List (Value × (Addr → Value → Option Addr → TS)) → Prop
  | nil : HdsAs X n [] []
  | cons {x : Str} {c : Value} {ts : Addr → Value → Option Addr → TS} {b₀ : Stmt} {suite : List Stmt} {np pos' : Pos} {hds : List ExceptHandler} {l : List (Value × (Addr → Value → Option Addr → TS))} (hc : Names X x c)
      (hsu : ∀ (a : Addr) (oe : Obj) (cls : Value) (d : Option Addr) (pn : List (Addr × Obj)), Zc cls d oe → (∃ vs, oe.data = .fields vs) → PSs (X.suite a ((a, oe) :: pn)) (b₀ :: suite) (ts a cls d)) (r : HdsAs X n hds l) :
      HdsAs X n (.ExceptHandler (some (.Name x np)) (some n) (b₀ :: suite) pos' :: hds) ((c, ts) :: l)
section
variable {X : Cx} {n : Str} {i : Nat} {body : List Stmt} {h₀ : ExceptHandler} {hds : List ExceptHandler} {l : List (Value × (Addr → Value → Option Addr → TS))} {pos : Pos} {tb : WX → TS}
theorem ps_try_asN (hst : X.stack = X.env :: X.outer) (hfr : X.env.frame = some X.env.locals) (nd : X.N.Nodup) (hi : X.N[i]? = some n) (hk : X.env.kindOf n = some .local)
    (hb : ∀ (W : WX) (pn : List (Addr × Obj)) (xe : Value → Shared → Prop), Takes (X.tr pn xe) W → PassesOwn (model X.prog X.w) X.A X.env xe → PSs (X.tr pn xe) body (tb W))
    (hh : HdsAs X n (h₀ :: hds) l) : PS X (.Try body (h₀ :: hds) [] [] pos) (fun D σ H => tb (wAs X.K i D l) D σ H) := by
  refine ⟨fun pins s σ H D I hq => ?_⟩
  have ok0 := I.ok
  have fr0 : X.A.frames = some (X.env :: X.outer) := ok0.frames.trans (congrArg some hst)
  have loc0 : Loc X.env.scope n := .inl hk
  refine wpAny_Try_except (wpAny_mono ((hb (wAs X.K i D l) (X.pn ++ pins) (fun e z1 => wpAny (model X.prog X.w) X.A (noteFrame e X.env) (fun _ z2 => wpAny (model X.prog X.w) X.A (setFlight e none) (fun _ z3 =>
    wpAny (model X.prog X.w) X.A (handleBy e X.env (h₀ :: hds)) (SP X pins D) X.xe z3) X.xe z2) X.xe z1) (fun u z xx => ?_) PassesOwn.looking).run [] s σ H D (I.toTry _) hq) (fun f z fin => ?_) (fun e z he => he))
  · obtain ⟨a, B, sI, pins2, σ2, G, cls, d, rfl, I2, nb, up, sky, na, os, ag, wish⟩ := xx
    have I3 : Inv X pins σ2 G sI := I2.ofTry ok0
    have sky2 : Sky B (X.env :: X.outer) a (Zc cls d) X.env.locals z.heap := hst ▸ sky
    show wpAny _ X.A (noteFrame (.ref a) X.env) _ _ z
    refine Sky.land Zc.steady fr0 hfr sky2 fun g fl upg => ?_
    have I4 : Inv X pins σ2 G { z with heap := g } := I3.landed nb fl.1 (up.trans upg) os ag
    obtain ⟨oe, vs, he, hz, hd⟩ := fl.there
    have noF : ∀ {h : Heap} {o : Obj} {ws : Array Value}, h.FunFrames B (X.env :: X.outer) → h.get? a = some o → o.data = .fields ws → a ∉ frs (X.env :: X.outer) := fun ff e1 dd hm => by
      obtain ⟨_, o2, e2, no⟩ := ff.mem hm
      rw [e1] at e2
      cases e2
      exact no _ dd
    have nF := noF fl.2.2.1 he hd
    have nLo : a ≠ X.env.locals := fun y => nF (List.mem_filterMap.mpr ⟨X.env, List.mem_cons_self, hfr.trans (congrArg some y.symm)⟩)
    have nFs : a ∉ X.fs := fun hm => by
      obtain ⟨ev, me, q⟩ := List.mem_filterMap.mp hm
      exact nF (List.mem_filterMap.mpr ⟨ev, List.mem_cons_of_mem _ me, q⟩)
    have IS := I4.suite he hd na nLo nFs
    have LT : PySem.W.Looks (model X.prog X.w) g (typeOf (.ref a)) cls := fun A0 Q0 E0 s0 kk q => wpAny_typeOf_ref (kk _ _ he) (hz.1.symm ▸ q)
    have test : ∀ {x : Str} {c : Value} {np : Pos}, Names X x c → ∀ {Q : Value → Shared → Prop} {E : Value → Shared → Prop}, Q c { z with heap := g } → wpAny (model X.prog X.w) (X.A.mark (some (.ref a))) (eval (.Name x np) X.env) Q E { z with heap := g } := fun {x c np} hc {Q E} q => by
      rcases hc with ⟨hg, hdb, hm | ⟨hm, hv, hnn⟩⟩
      · exact ld_glob (X := X.suite a ((a, oe) :: (X.pn ++ pins))) IS hg hm q hdb
      · exact ld_blt (X := X.suite a ((a, oe) :: (X.pn ++ pins))) IS hg hm hv q hnn hdb
    have go : ∀ {hds2 : List ExceptHandler} {l2 : List (Value × (Addr → Value → Option Addr → TS))}, HdsAs X n hds2 l2 → wAs X.K i D l2 cls d σ2 G →
        wpAny (model X.prog X.w) X.A (handleBy (.ref a) X.env hds2) (SP X pins D) X.xe { z with heap := g } := by
      intro hds2 l2 hk2
      induction hk2 with
      | nil => exact fun w => w.elim
      | @cons x c ts b₀ suite np pos2 hds3 l3 hc hsu r ih =>
        intro w
        rcases w with ⟨e1, hts⟩ | ⟨e1, w⟩
        all_goals
          have LM := PySem.W.exm_one (M := model X.prog X.w) I4.kIn LT e1
          refine wpAny_handleBy_cons (codeAny_handlers_test (test hc (LM.here ?_))) (fun q => by cases q)
        · have hts := hts a na (by rw [I3.len]; exact (List.getElem?_eq_some_iff.mp hi).1)
          refine codeAny_handlers_suite_as (HandSPX.lands_againZ fl fun k flk upk => ?_)
          have I5 : Inv X pins σ2 G { z with heap := k } := I3.landed nb flk.1 ((up.trans upg).trans upk) os ag
          obtain ⟨oe5, vs5, he5, hz5, hd5⟩ := flk.there
          have IS5 := I5.suite he5 hd5 na nLo nFs
          refine store_ok (X := X.suite a ((a, oe5) :: (X.pn ++ pins))) (v := .ref a) IS5 nd hi loc0 rfl (fun z5 Z5 => ?_) (.inr hk)
          have close_ : ∀ {σ6 : L2.St} {H6 : Hp} {z6 : Shared} {pz : Pos} {Q : Shared → Prop}, Inv (X.suite a ((a, oe5) :: (X.pn ++ pins))) [] σ6 H6 z6 → (∀ z7, Inv X pins (σ6.set i none) H6 z7 → Q z7) →
              wpAny (model X.prog X.w) X.A (do bindName X.env n .none; unbindBehindTheSuite X.env n pz) (fun _ z7 => Q z7) X.xe z6 := fun Z6 hq6 => gone_ok (Z6.unsuite ok0) nd hi hk hq6
          refine wpAny_mono ((hsu a oe5 cls d (X.pn ++ pins) hz5 ⟨_, hd5⟩).run [] z5 _ G _ Z5 hts) (fun f z6 hsp => ?_) (fun _ _ y => y.elim)
          cases f with
          | next =>
            obtain ⟨σ6, H6, Z6, q6⟩ := hsp
            exact close_ Z6 fun _ Z7 => ⟨_, _, Z7, q6⟩
          | brk =>
            obtain ⟨σ6, H6, Z6, q6⟩ := hsp
            exact close_ Z6 fun _ Z7 => ⟨_, _, Z7, q6⟩
          | cont =>
            obtain ⟨σ6, H6, Z6, q6⟩ := hsp
            exact close_ Z6 fun _ Z7 => ⟨_, _, Z7, q6⟩
          | ret u =>
            obtain ⟨v6, σ6, H6, Z6, r6, q6⟩ := hsp
            exact close_ Z6 fun _ Z7 => ⟨_, _, _, Z7, r6, q6⟩
        · show wpAny _ X.A (handleBy (.ref a) X.env hds3) _ _ _
          exact ih w
    exact go hh wish
  · cases f with
    | next =>
      obtain ⟨σ', H', J', q⟩ := fin
      exact wpAny_execs_nil ⟨σ', H', J'.ofTry ok0, q⟩
    | brk =>
      obtain ⟨σ', H', J', q⟩ := fin
      exact ⟨σ', H', J'.ofTry ok0, q⟩
    | cont =>
      obtain ⟨σ', H', J', q⟩ := fin
      exact ⟨σ', H', J'.ofTry ok0, q⟩
    | ret u =>
      obtain ⟨v, σ', H', J', r, q⟩ := fin
      exact ⟨v, σ', H', J'.ofTry ok0, r, q⟩
end
end OB
namespace OB
open PySem PySem.Spec PyProof.Rows L2 LamX
/-! ### what is told, or how it is refused -/
abbrev sMet : Stmt := top 45
def told2 (Q : VK) (x : Str) : V → Hp → Prop := fun v G => 2 ≤ sizeLine ∧ ∀ T, G T = none → Q (.ref T) (upd G T (.tup [.str x, v]))
/-- the classes of the errors -/
structure Cls3 where
  L : Addr
  B : Addr
  N : Addr
inductive Met3 (C : Cls3) : Addr → Str → Str → Prop where
  | l : Met3 C C.L "thing" "land"
  | b : Met3 C C.B "book" "book"
  | n : Met3 C C.N "address" "address"
def EchM (C : Cls3) (Q : VK) : XK := fun cls d G => ∃ A f x, Met3 C A f x ∧ cls = .ref A ∧ ∃ dd v, d = some dd ∧ G dd = some (.xd [(f, v)]) ∧ told2 Q x v G
def TTMet (C : Cls3) : (XK → Hp → VK → Prop) → Hp → VK → Prop := fun tl H Q => tl (EchM C Q) H fun v G => told2 Q "told" v G
structure MetK (K : PySem.W.Frag) (mg : Str → Option Value) (C : Cls3) : Prop where
  gL : mg "BadLand" = some (.ref C.L)
  xL : XfC K C.L
  fL : PySem.W.findIn K (.ref C.L) "thing" = some none
  gB : mg "BadBook" = some (.ref C.B)
  xB : XfC K C.B
  fB : PySem.W.findIn K (.ref C.B) "book" = some none
  gN : mg "NoAddress" = some (.ref C.N)
  xN : XfC K C.N
  fN : PySem.W.findIn K (.ref C.N) "address" = some none
  eLL : PySem.W.exmOne K (.ref C.L) (.ref C.L) = some true
  eBL : PySem.W.exmOne K (.ref C.B) (.ref C.L) = some false
  eBB : PySem.W.exmOne K (.ref C.B) (.ref C.B) = some true
  eNL : PySem.W.exmOne K (.ref C.N) (.ref C.L) = some false
  eNB : PySem.W.exmOne K (.ref C.N) (.ref C.B) = some false
  eNN : PySem.W.exmOne K (.ref C.N) (.ref C.N) = some true
theorem scMet : FnScope ["ask", "e"] ["ask"] (defScope sMet) := ⟨rfl, rfl, rfl, by decide +kernel, rfl, by decide +kernel, by decide +kernel⟩
/-- an error that is told -/
theorem met_bad {C : Cls3} {A : Addr} {f x : Str} {Q : VK} {H : Hp} {v : V} (m : Met3 C A f x) (q : ∀ G T, Same H G → H T = none → G T = some (.tup [.str x, v]) → Q (.ref T) G) : Bad (EchM C Q) H A f v := fun H' d e n g =>
  ⟨A, f, x, m, rfl, d, v, rfl, g, by decide, fun T nT => q _ T (e.trans (Same.new nT)) (e.free nT) upd_same⟩
section
variable {X : Cx}
theorem met_gives {q : Str} {g : Addr} {cdg : Value} {C : Cls3} (M : MetK X.K X.mg C) : GivesTo X ["ask", "e"] "_law_met" (defScope sMet) g cdg (defBody sMet) "ask" q (TTMet C) := by
  intro f c' s H Q tl act hc h
  have nd := scMet.nd
  refine ⟨_, pss_one (ps_try_asN (n := "e") (i := 1) (X := (cxOf C8.CX0 X.prog X.w X.K X.mg X.base ["ask", "e"] "_law_met" (defScope sMet) g cdg X.A X.stack s H C8.E0).nox)
      (tb := fun W D σ G => ∃ Ech : XK, (∀ cls d σ' H', Ech cls d H' → W cls d σ' H') ∧ σ[0]? = some (some (.ref f)) ∧ G c' = some (CodeO c' q) ∧ tl Ech G fun v G2 => told2 D.rt "told" v G2)
      rfl rfl nd rfl rfl (fun W pn xe tk _ => ?_)
      (.cons ⟨by rfl, by decide, .inl M.gL⟩ (fun a oe cls d pn hz hf => pss_one (ps_ret (pe_tup (pa_cons pe_str (pa_cons (pe_xf M.xL M.fL hz hf (pv 1)) pa_nil)))))
      (.cons ⟨by rfl, by decide, .inl M.gB⟩ (fun a oe cls d pn hz hf => pss_one (ps_ret (pe_tup (pa_cons pe_str (pa_cons (pe_xf M.xB M.fB hz hf (pv 1)) pa_nil)))))
      (.cons ⟨by rfl, by decide, .inl M.gN⟩ (fun a oe cls d pn hz hf => pss_one (ps_ret (pe_tup (pa_cons pe_str (pa_cons (pe_xf M.xN M.fN hz hf (pv 1)) pa_nil)))))
      .nil)))), ?_⟩
  · refine ⟨fun pins s' σ H' D I h' => ?_⟩
    obtain ⟨Ech, hW, h1, h2, h3⟩ := h'
    exact (pss_one (ps_ret (pe_tup (pa_cons pe_str (pa_cons (act W pn xe Ech _ _ tk hW) pa_nil))))).run pins s' σ H' D I ⟨h1, h2, h3⟩
  · refine ⟨EchM C Q, fun cls d σ' G z => ?_, rfl, hc, h⟩
    obtain ⟨A, f, x, m, rfl, dd, v, rfl, gd, q1, q2⟩ := z
    cases m with
    | l => exact .inl ⟨M.eLL, fun a na li => ⟨_, by rw [List.getElem?_set_self li], rfl, rfl, dd, _, v, rfl, gd, by simp [List.lookup], q1, q2⟩⟩
    | b => exact .inr ⟨M.eBL, .inl ⟨M.eBB, fun a na li => ⟨_, by rw [List.getElem?_set_self li], rfl, rfl, dd, _, v, rfl, gd, by simp [List.lookup], q1, q2⟩⟩⟩
    | n => exact .inr ⟨M.eNL, .inr ⟨M.eNB, .inl ⟨M.eNN, fun a na li => ⟨_, by rw [List.getElem?_set_self li], rfl, rfl, dd, _, v, rfl, gd, by simp [List.lookup], q1, q2⟩⟩⟩⟩
end
end OB
namespace OB
open PySem PySem.Spec PyProof.Rows L2 LamX
/-! ### what is no book, what is no address -/
theorem Any.ext {K : PySem.W.Frag} {H H' : Hp} {v : V} {k : Kd} (h : Any K H v k) (e : ExtN H H') : Any K H' v k := by
  cases h with
  | non => exact .non
  | bl b => exact .bl b
  | int i => exact .int i
  | str h => exact .str h
  | lst q => exact .lst (e _ _ q (by intro ps z; cases z))
  | tup q => exact .tup (e _ _ q (by intro ps z; cases z))
  | dct q => exact .dct (e _ _ q (by intro ps z; cases z))
  | odt q c => exact .odt (e _ _ q (by intro ps z; cases z)) c
  | fn q c => exact .fn q c
  | ins q o => exact .ins (e _ _ q (by intro ps z; cases z)) o
theorem mkX_tbl {tp : Bool} {xs : List V} (ps : Array Value) : mkX tp xs ≠ .tbl ps := by
  cases tp <;> (intro z; cases z)
theorem ArgW.ext {K : PySem.W.Frag} {H H' : Hp} {v : V} {r : Option (List V)} (h : ArgW K H v r) (e : ExtN H H') : ArgW K H' v r := by
  cases r with
  | none =>
    obtain ⟨k, h1, h2⟩ := h
    exact ⟨k, h1.ext e, h2⟩
  | some xs =>
    obtain ⟨a, tp, h1, h2, h3, h4⟩ := h
    exact ⟨a, tp, h1, e _ _ h2 mkX_tbl, fun x m => (h3 x m).imp fun k z => z.ext e, h4⟩
theorem BkW.ext {K : PySem.W.Frag} {H H' : Hp} {v : V} {r : Option BkR} (h : BkW K H v r) (e : ExtN H H') : BkW K H' v r := by
  cases r with
  | none =>
    rcases h with ⟨k, h1, h2⟩ | ⟨a, k, kd, kv, u, h1, h2, h3, h4, h5⟩
    · exact .inl ⟨k, h1.ext e, h2⟩
    · exact .inr ⟨a, k, kd, kv, u, h1, e _ _ h2 (by intro ps z; cases z), h3, h4.ext e, h5⟩
  | some rs =>
    obtain ⟨a, kvs, h1, h2, h3, h4, h5⟩ := h
    exact ⟨a, kvs, h1, e _ _ h2 (by intro ps z; cases z), h3, h4, Paired.imp (fun p q z => ⟨z.1, z.2.ext e⟩) h5⟩
theorem LandAt.ext {H H' : Hp} {C o : Addr} {xs : List V} {m : Int} (h : LandAt H C o xs m) (e : ExtN H H') : LandAt H' C o xs m := by
  obtain ⟨dx, T, h1, h2⟩ := h
  exact ⟨dx, T, e _ _ h1 (by intro ps z; cases z), e _ _ h2 (by intro ps z; cases z)⟩
theorem up_to {K : PySem.W.Frag} {C : Addr} {H : Hp} {v w : V} {d : Nat} : ∀ n : Nat, SameV K C d H v w → SameV K C (d + n) H v w
  | 0, h => h
  | n + 1, h => SameV.up _ (up_to n h)
/-- it is itself -/
abbrev Self (K : PySem.W.Frag) (C : Addr) (d : Nat) (H : Hp) (v : V) : Prop := SameV K C d H v v
theorem items_self {K : PySem.W.Frag} {C : Addr} {G : Hp} : ∀ {kvs : List (Key × V)} {ts us : List Addr}, (∀ q ∈ kvs, Self K C 3 G (kV q.1) ∧ Self K C 3 G q.2) → Paired (fun (t : Addr) (q : Key × V) => G t = some (.tup [kV q.1, q.2])) ts kvs → Paired (fun (t : Addr) (q : Key × V) => G t = some (.tup [kV q.1, q.2])) us kvs → Paired (SameV K C 4 G) (ts.map V.ref) (us.map V.ref)
  | _, _, _, _, .nil, .nil => .nil
  | q :: _, _, _, h, .cons a r, .cons b s => by
    obtain ⟨h1, h2⟩ := h q (List.mem_cons_self ..)
    exact .cons (SameW.seq (tp := true) a b (by simp) (.cons h1 (.cons h2 .nil))) (items_self (fun u m => h u (List.mem_cons_of_mem _ m)) r s)
theorem self_dct {K : PySem.W.Frag} {C a : Addr} {H : Hp} {kvs : List (Key × V)} (ha : H a = some (.dK kvs)) (l : kvs.length < 1000) (h : ∀ q ∈ kvs, Self K C 3 H (kV q.1) ∧ Self K C 3 H q.2) : Self K C 6 H (.ref a) :=
  SameW.dct ha ha fun G x y e ⟨ts, gx, px⟩ ⟨us, gy, py⟩ => SameW.seq (tp := false) gx gy (by rw [List.length_map, px.length]; exact l) (items_self (fun q m => ⟨(h q m).1.ext _ e, (h q m).2.ext _ e⟩) px py)
theorem self_one {K : PySem.W.Frag} {C a : Addr} {H : Hp} {k u : V} {kv uv : Value} (ha : H a = some (oneO a kv uv)) (rk : RelV k kv) (ru : RelV u uv) (h1 : Self K C 3 H k) (h2 : Self K C 3 H u) : Self K C 6 H (.ref a) :=
  SameW.odt ha rk ru fun G x y e ⟨t, gx, gt⟩ ⟨s, gy, gs⟩ => SameW.seq (tp := false) (xs := [.ref t]) (ys := [.ref s]) gx gy (by simp) (.cons (SameW.seq (tp := true) gt gs (by simp) (.cons (h1.ext _ e) (.cons (h2.ext _ e) .nil))) .nil)
theorem self_seq {K : PySem.W.Frag} {C a : Addr} {H : Hp} {tp : Bool} {xs : List V} {d : Nat} (ha : H a = some (mkX tp xs)) (l : xs.length < 1000) (h : ∀ x ∈ xs, Self K C d H x) : Self K C (d + 1) H (.ref a) := by
  refine SameW.seq ha ha l ?_
  clear ha l
  induction xs with
  | nil => exact .nil
  | cons x xs ih => exact .cons (h x (List.mem_cons_self ..)) (ih fun y m => h y (List.mem_cons_of_mem _ m))
/-- no book of the land of these names -/
structure OddB (K : PySem.W.Frag) (C : Addr) (ns : List Str) (G : Hp) (v : V) : Prop where
  bk : ∃ r, BkW K G v r ∧ bookOf ns r = none
  sm : Self K C 6 G v
structure OddA (K : PySem.W.Frag) (C : Addr) (ns : List Str) (G : Hp) (v : V) : Prop where
  an : ∃ k, Any K G v k
  no : wordIn ns v = false
  sm : Self K C 6 G v
theorem OddB.ext {K : PySem.W.Frag} {C : Addr} {ns : List Str} {G G' : Hp} {v : V} (h : OddB K C ns G v) (e : ExtN G G') : OddB K C ns G' v := by
  obtain ⟨⟨r, h1, h2⟩, h3⟩ := h
  exact ⟨⟨r, h1.ext e, h2⟩, h3.ext _ e⟩
theorem OddA.ext {K : PySem.W.Frag} {C : Addr} {ns : List Str} {G G' : Hp} {v : V} (h : OddA K C ns G v) (e : ExtN G G') : OddA K C ns G' v := by
  obtain ⟨⟨k, h1⟩, h2, h3⟩ := h
  exact ⟨⟨k, h1.ext e⟩, h2, h3.ext _ e⟩
/-! #### kinds of them -/
section
variable {K : PySem.W.Frag} {C : Addr} {ns : List Str} {G : Hp}
theorem odd_flat {v : V} {k : Kd} (a : Any K G v k) (h : k.isDct = false) (s : Self K C 6 G v) : OddB K C ns G v := ⟨⟨none, .inl ⟨k, a, h⟩, rfl⟩, s⟩
theorem odd_seq {a : Addr} {tp : Bool} {xs : List V} (ha : G a = some (mkX tp xs)) (l : xs.length < 1000) (h : ∀ x ∈ xs, Self K C 5 G x) : OddB K C ns G (.ref a) := by
  refine ⟨⟨none, .inl ?_, rfl⟩, self_seq ha l h⟩
  cases tp with
  | true => exact ⟨.tup, .tup ha, rfl⟩
  | false => exact ⟨.lst, .lst ha, rfl⟩
theorem book_bad {rs : BkR} {x : Str} (m : x ∈ ns) (h : entB ns rs x = false) : bookOf ns (some rs) = none := if_neg fun z => by
  rw [z.2 x m] at h
  cases h
theorem keys_bad {rs : BkR} (h : keysIn ns rs = false) : bookOf ns (some rs) = none := if_neg fun z => by
  rw [z.1] at h
  cases h
theorem odd_dct {a : Addr} {kvs : List (Key × V)} {rs : BkR} (ha : G a = some (.dK kvs)) (sh : ∀ p ∈ kvs, shortK p.1) (l : kvs.length < 1000) (pr : Paired (fun (p : Key × V) (q : Key × Option (List V)) => p.1 = q.1 ∧ ArgW K G p.2 q.2) kvs rs) (no : bookOf ns (some rs) = none) (h : ∀ q ∈ kvs, Self K C 3 G (kV q.1) ∧ Self K C 3 G q.2) : OddB K C ns G (.ref a) :=
  ⟨⟨some rs, ⟨a, kvs, rfl, ha, sh, l, pr⟩, no⟩, self_dct ha l h⟩
theorem odd_one {a : Addr} {k u : V} {kd : Kd} {kv uv : Value} (ha : G a = some (oneO a kv uv)) (rk : RelV k kv) (ru : RelV u uv) (ak : Any K G k kd) (n1 : kd.isStr = false) (n2 : kd.isDct = false) (h1 : Self K C 3 G k) (h2 : Self K C 3 G u) : OddB K C ns G (.ref a) :=
  ⟨⟨none, .inr ⟨a, k, kd, kv, uv, rfl, ha, rk, ak, n1, n2⟩, rfl⟩, self_one ha rk ru h1 h2⟩
theorem self_str {x : Str} {d : Nat} (h : x.length ≤ 100) : Self K C (d + 1) G (.str x) := SameW.str h
theorem self_non {d : Nat} : Self K C (d + 1) G .non := SameW.non
theorem self_int {d : Nat} (i : Int) : Self K C (d + 1) G (.int i) := SameW.int i
theorem self_bl {d : Nat} (b : Bool) : Self K C (d + 1) G (.bl b) := SameW.bl b
theorem look_one (k : Key) (r : Option (List V)) : lookK [(k, r)] k = some r := by simp [lookK]
theorem unl_one {x : Str} (h : x ∈ ns) : unlOf ns (some [.str x]) = some [x] := if_pos ⟨by show (decide (x ∈ ns) && true) = true; rw [decide_eq_true h] <;> rfl, by simp [strOf]⟩
theorem unl_two {x y : Str} (h : x ∈ ns) (h2 : y ∈ ns) (ne : x ≠ y) : unlOf ns (some [.str x, .str y]) = some [x, y] := if_pos ⟨by show (decide (x ∈ ns) && (decide (y ∈ ns) && true)) = true; rw [decide_eq_true h, decide_eq_true h2] <;> rfl, by simp [strOf, ne]⟩
theorem unl_twice {x : Str} : unlOf ns (some [.str x, .str x]) = none := if_neg fun z => by
  have := z.2
  simp [strOf] at this
theorem unl_odd {v : V} (h : wordIn ns v = false) : unlOf ns (some [v]) = none := if_neg fun z => by
  have z1 : (wordIn ns v && true) = true := z.1
  rw [h] at z1
  cases z1
/-- a display is done -/
theorem disp_fin {H G : Hp} {p : Addr} {kvs : List (Key × V)} (np : H p = none) (e : Same (upd H p (.dK [])) G) : Same H (upd G p (.dK kvs)) := fun c o ec => by
  have cp : c ≠ p := ne_of_none ec np
  rw [upd_ne cp]
  exact e c o (by rw [upd_ne cp]; exact ec)
/-- what is new in G stands in F, too -/
def New (H G F : Hp) : Prop := ∀ c o, (∀ ps, o ≠ .tbl ps) → H c = none → G c = some o → F c = some o
theorem up_free {H : Hp} {p t : Addr} {u : HO} (h : (upd H p u) t = none) : H t = none := by
  by_cases z : t = p
  · rw [z, upd_same] at h
    cases h
  · rw [upd_ne z] at h
    exact h
/-- what is made: it is so wherever the new things stand -/
def Mk1 (K : PySem.W.Frag) (C : Addr) (ns : List Str) (σ : L2.St) (t : TE) : Prop := ∀ (H : Hp) (Q : VK), (∀ v G, Same H G → (∀ F, New H G F → OddB K C ns F v) → Q v G) → t σ H Q
end
end OB
namespace OB
open PySem PySem.Spec PyProof.Rows L2 LamX
/-! ### how each of them is made -/
section
variable {K : PySem.W.Frag} {C : Addr} {ns : List Str}
/-- a display of one entry, done -/
theorem disp_one {H G : Hp} {p : Addr} {kk : Key} {v : V} {r : Option (List V)} {Q : VK} (np : H p = none) (e : Same (upd H p (.dK [])) G) (f : ∀ F : Hp, (∀ c o, (∀ ps, o ≠ .tbl ps) → H c = none → c ≠ p → G c = some o → F c = some o) → ArgW K F v r ∧ Self K C 3 F v) (sk : shortK kk) (no : bookOf ns (some [(kk, r)]) = none)
    (q : ∀ v G, Same H G → (∀ F, New H G F → OddB K C ns F v) → Q v G) : G p = some (.dK []) ∧ ∃ kvs : List (Key × V), [(kV kk, v)] = kvs.map (fun kv => (kV kv.1, kv.2)) ∧ kvs.length ≤ 15 ∧ Q (.ref p) (upd G p (.dK (mergeK [] kvs))) := by
  refine ⟨e p _ upd_same, [(kk, v)], rfl, by show 1 ≤ 15; decide, ?_⟩
  refine q _ _ (disp_fin np e) fun F nF => ?_
  obtain ⟨f1, f2⟩ := f F fun c o nt hc n ec => nF c o nt hc (by rw [upd_ne n]; exact ec)
  refine odd_dct (kvs := [(kk, v)]) (rs := [(kk, r)]) (nF p _ (by intro ps z; cases z) np upd_same) (fun z m => ?_) (by simp) (.cons ⟨rfl, f1⟩ .nil) no fun z m => ?_
  · rw [List.mem_singleton.mp m]
    exact sk
  · rw [List.mem_singleton.mp m]
    refine ⟨?_, f2⟩
    cases kk with
    | inl i => exact self_int i
    | inr x => exact self_str sk
theorem any_str {F : Hp} {x : Str} (h : x.length ≤ 100) : ∃ k, Any K F (.str x) k := ⟨_, .str h⟩
/-- a tuple or list of flat things as an entry -/
theorem arg_seq {F : Hp} {t : Addr} {tp : Bool} {xs : List V} (h : F t = some (mkX tp xs)) (a : ∀ x ∈ xs, ∃ k, Any K F x k) (l : xs.length < 1000) (s : ∀ x ∈ xs, Self K C 2 F x) : ArgW K F (.ref t) (some xs) ∧ Self K C 3 F (.ref t) := ⟨⟨t, tp, rfl, h, a, l⟩, self_seq h l s⟩
variable {σ : L2.St} {x y : Str} {l : Addr} {m : Int}
theorem mk_flat {v : V} {k : Kd} (a : ∀ G, Any K G v k) (h : k.isDct = false) (s : ∀ G, Self K C 6 G v) : Mk1 K C ns σ (tC v) := fun H Q q => q _ H (Same.refl H) fun F _ => odd_flat (a F) h (s F)
theorem mk_nilL : Mk1 K C ns σ (tLst tNil) := fun H Q q => ⟨Nat.zero_le _, fun p np => q _ _ (Same.new np) fun F nF => odd_seq (tp := false) (nF p _ (by intro ps z; cases z) np upd_same) (by simp) fun x m => by cases m⟩
theorem mk_nilT : Mk1 K C ns σ (tTup tNil) := fun H Q q => ⟨Nat.zero_le _, fun p np => q _ _ (Same.new np) fun F nF => odd_seq (tp := true) (nF p _ (by intro ps z; cases z) np upd_same) (by simp) fun x m => by cases m⟩
theorem mk_7 (h1 : σ[9]? = some (some (.str x))) (h2 : σ[10]? = some (some (.str y))) (lx : x.length ≤ 100) (ly : y.length ≤ 100) : Mk1 K C ns σ (tLst (tCons (tTup (tCons (tVar 9) (tCons (tTup (tCons (tVar 10) tNil)) tNil))) tNil)) := fun H Q q => by
  refine ⟨_, h1, _, h2, by show 1 ≤ sizeLine; decide, fun c1 n1 => ⟨by show 2 ≤ sizeLine; decide, fun c2 n2 => ⟨by show 1 ≤ sizeLine; decide, fun c3 n3 => ?_⟩⟩⟩
  have e1 := Same.new (u := .tup [.str y]) n1
  have e2 := Same.new (u := .tup [.str x, .ref c1]) n2
  have e3 := Same.new (u := .lst [.ref c2]) n3
  refine q _ _ ((e1.trans e2).trans e3) fun F nF => odd_seq (tp := false) (xs := [.ref c2]) (nF c3 _ (by intro ps z; cases z) (up_free (up_free n3)) upd_same) (by simp) fun z m => ?_
  rw [List.mem_singleton.mp m]
  refine self_seq (tp := true) (xs := [.str x, .ref c1]) (nF c2 _ (by intro ps z; cases z) (up_free n2) (e3 _ _ upd_same)) (by simp) fun z m => ?_
  rcases List.mem_cons.mp m with rfl | m
  · exact self_str lx
  · rw [List.mem_singleton.mp m]
    refine self_seq (tp := true) (xs := [.str y]) (nF c1 _ (by intro ps z; cases z) n1 (e3 _ _ (e2 _ _ upd_same))) (by simp) fun z m => ?_
    rw [List.mem_singleton.mp m]
    exact self_str ly
theorem mk_8 (h1 : σ[9]? = some (some (.str x))) (mx : x ∈ ns) (lx : x.length ≤ 100) : Mk1 K C ns σ (tDisp [(tVar 9, tC .non)]) := fun H Q q p np => by
  refine ⟨_, h1, ?_⟩
  exact disp_one (kk := .inr x) (r := none) np (Same.refl _) (fun F _ => ⟨⟨_, .non, rfl⟩, self_non⟩) lx (book_bad mx (entB_bad (look_one _ _) rfl)) q
theorem mk_9 (h1 : σ[9]? = some (some (.str x))) (h2 : σ[10]? = some (some (.str y))) (mx : x ∈ ns) (lx : x.length ≤ 100) (ly : y.length ≤ 100) : Mk1 K C ns σ (tDisp [(tVar 9, tVar 10)]) := fun H Q q p np => by
  refine ⟨_, h1, _, h2, ?_⟩
  exact disp_one (kk := .inr x) (r := none) np (Same.refl _) (fun F _ => ⟨⟨_, .str ly, rfl⟩, self_str ly⟩) lx (book_bad mx (entB_bad (look_one _ _) rfl)) q
theorem mk_10 (h1 : σ[9]? = some (some (.str x))) (mx : x ∈ ns) (lx : x.length ≤ 100) : Mk1 K C ns σ (tDisp [(tVar 9, tTup (tCons (tVar 9) tNil))]) := fun H Q q p np => by
  refine ⟨_, h1, _, h1, by show 1 ≤ sizeLine; decide, fun t nt => ?_⟩
  have tp : t ≠ p := (ne_of_none (o := .dK []) upd_same nt).symm
  refine disp_one (kk := .inr x) (r := some [.str x]) np (Same.new nt) (fun F f => arg_seq (tp := true) (f t _ (by intro ps z; cases z) (up_free nt) tp upd_same) (fun z m => ?_) (by simp) fun z m => ?_) lx (book_bad mx ?_) q
  · rw [List.mem_singleton.mp m]
    exact any_str lx
  · rw [List.mem_singleton.mp m]
    exact self_str lx
  · rw [entB_some (look_one _ _) (unl_one mx)]
    simp
theorem mk_11 (no : ("none" : Str) ∉ ns) : Mk1 K C ns σ (tDisp [(tC (.str "none"), tTup tNil)]) := fun H Q q p np => by
  refine ⟨Nat.zero_le _, fun t nt => ?_⟩
  have tp : t ≠ p := (ne_of_none (o := .dK []) upd_same nt).symm
  refine disp_one (kk := .inr "none") (r := some []) np (Same.new nt) (fun F f => arg_seq (tp := true) (f t _ (by intro ps z; cases z) (up_free nt) tp upd_same) (fun z m => by cases m) (by simp) fun z m => by cases m) (by show ("none" : Str).length ≤ 100; decide) (keys_bad ?_) q
  show (decide (("none" : Str) ∈ ns) && true) = false
  rw [decide_eq_false no] <;> rfl
theorem mk_12 (h1 : σ[9]? = some (some (.str x))) (h2 : σ[10]? = some (some (.str y))) (mx : x ∈ ns) (lx : x.length ≤ 100) (ly : y.length ≤ 100) : Mk1 K C ns σ (tDisp [(tVar 9, tTup (tCons (tVar 10) (tCons (tVar 10) tNil)))]) := fun H Q q p np => by
  refine ⟨_, h1, _, h2, _, h2, by show 2 ≤ sizeLine; decide, fun t nt => ?_⟩
  have tp : t ≠ p := (ne_of_none (o := .dK []) upd_same nt).symm
  refine disp_one (kk := .inr x) (r := some [.str y, .str y]) np (Same.new nt) (fun F f => arg_seq (tp := true) (f t _ (by intro ps z; cases z) (up_free nt) tp upd_same) (fun z m => ?_) (by simp) fun z m => ?_) lx (book_bad mx (entB_bad (look_one _ _) unl_twice)) q
  · have e : z = .str y := by simpa using m
    rw [e]
    exact any_str ly
  · have e : z = .str y := by simpa using m
    rw [e]
    exact self_str ly
theorem mk_13 (h1 : σ[9]? = some (some (.str x))) (no : ("none" : Str) ∉ ns) (mx : x ∈ ns) (lx : x.length ≤ 100) : Mk1 K C ns σ (tDisp [(tVar 9, tTup (tCons (tC (.str "none")) tNil))]) := fun H Q q p np => by
  refine ⟨_, h1, by show 1 ≤ sizeLine; decide, fun t nt => ?_⟩
  have tp : t ≠ p := (ne_of_none (o := .dK []) upd_same nt).symm
  refine disp_one (kk := .inr x) (r := some [.str "none"]) np (Same.new nt) (fun F f => arg_seq (tp := true) (f t _ (by intro ps z; cases z) (up_free nt) tp upd_same) (fun z m => ?_) (by simp) fun z m => ?_) lx (book_bad mx (entB_bad (look_one _ _) (unl_odd (decide_eq_false no)))) q
  · rw [List.mem_singleton.mp m]
    exact any_str (by decide)
  · rw [List.mem_singleton.mp m]
    exact self_str (by decide)
theorem mk_14 : Mk1 K C ns σ (tDisp [(tC (.int 5), tTup tNil)]) := fun H Q q p np => by
  refine ⟨Nat.zero_le _, fun t nt => ?_⟩
  have tp : t ≠ p := (ne_of_none (o := .dK []) upd_same nt).symm
  exact disp_one (kk := .inl 5) (r := some []) np (Same.new nt) (fun F f => arg_seq (tp := true) (f t _ (by intro ps z; cases z) (up_free nt) tp upd_same) (fun z m => by cases m) (by simp) fun z m => by cases m) trivial (keys_bad rfl) q
theorem mk_15 (h1 : σ[9]? = some (some (.str x))) (mx : x ∈ ns) (lx : x.length ≤ 100) : Mk1 K C ns σ (tDisp [(tVar 9, tDNewK)]) := fun H Q q p np => by
  refine ⟨_, h1, fun t nt => ?_⟩
  have tp : t ≠ p := (ne_of_none (o := .dK []) upd_same nt).symm
  refine disp_one (kk := .inr x) (r := none) np (Same.new nt) (fun F f => ?_) lx (book_bad mx (entB_bad (look_one _ _) rfl)) q
  have g := f t _ (by intro ps z; cases z) (up_free nt) tp upd_same
  exact ⟨⟨_, .dct g, rfl⟩, SameW.dct g g fun G a b e ⟨ts, ga, pa⟩ ⟨us, gb, pb⟩ => by
    cases pa
    cases pb
    exact SameW.seq (tp := false) ga gb (by simp) .nil⟩
theorem mk_16 (h1 : σ[9]? = some (some (.str x))) (h2 : σ[10]? = some (some (.str y))) (lx : x.length ≤ 100) (ly : y.length ≤ 100) : Mk1 K C ns σ (tDispT (tTup (tCons (tVar 9) tNil)) (tTup (tCons (tVar 10) tNil))) := fun H Q q p np => by
  refine ⟨_, h1, by show 1 ≤ sizeLine; decide, fun t nt => ⟨_, h2, by show 1 ≤ sizeLine; decide, fun b nb => ?_⟩⟩
  have tp : t ≠ p := (ne_of_none (o := .dK []) upd_same nt).symm
  have e1 := Same.new (u := .tup [.str x]) nt
  have e2 := Same.new (u := .tup [.str y]) nb
  have bp : b ≠ p := (ne_of_none (e1 _ _ (upd_same (H := H) (a := p) (o := .dK []))) nb).symm
  have e12 := e1.trans e2
  refine ⟨e12 p _ upd_same, t, b, [.inr x], rfl, e2 _ _ upd_same, ?_⟩
  have gt : (upd (upd (upd (upd H p (.dK [])) t (.tup [.str x])) b (.tup [.str y])) p (oneO p (.ref t) (.ref b))) t = some (.tup [.str x]) := by rw [upd_ne tp]; exact e2 _ _ upd_same
  have gb : (upd (upd (upd (upd H p (.dK [])) t (.tup [.str x])) b (.tup [.str y])) p (oneO p (.ref t) (.ref b))) b = some (.tup [.str y]) := by rw [upd_ne bp, upd_same]
  refine q _ _ (fun c o ec => ?_) fun F nF => odd_one (k := .ref t) (u := .ref b) (nF p _ (by intro ps z; unfold oneO at z; cases z) np upd_same) rfl rfl (.tup (nF t _ (by intro ps z; cases z) (up_free nt) gt)) rfl rfl (self_seq (tp := true) (nF t _ (by intro ps z; cases z) (up_free nt) gt) (by simp) fun z m => ?_) (self_seq (tp := true) (nF b _ (by intro ps z; cases z) (up_free (up_free nb)) gb) (by simp) fun z m => ?_)
  · have cp : c ≠ p := ne_of_none ec np
    rw [upd_ne cp]
    exact e12 c o (by rw [upd_ne cp]; exact ec)
  · rw [List.mem_singleton.mp m]
    exact self_str lx
  · rw [List.mem_singleton.mp m]
    exact self_str ly
theorem mk_17 (h1 : σ[9]? = some (some (.str x))) (mx : x ∈ ns) (lx : x.length ≤ 100) : Mk1 K C ns σ (tDisp [(tVar 9, tTup (tCons (tC .non) tNil))]) := fun H Q q p np => by
  refine ⟨_, h1, by show 1 ≤ sizeLine; decide, fun t nt => ?_⟩
  have tp : t ≠ p := (ne_of_none (o := .dK []) upd_same nt).symm
  refine disp_one (kk := .inr x) (r := some [.non]) np (Same.new nt) (fun F f => arg_seq (tp := true) (f t _ (by intro ps z; cases z) (up_free nt) tp upd_same) (fun z m => ?_) (by simp) fun z m => ?_) lx (book_bad mx (entB_bad (look_one _ _) (unl_odd rfl))) q
  · rw [List.mem_singleton.mp m]
    exact ⟨_, .non⟩
  · rw [List.mem_singleton.mp m]
    exact self_non
theorem mk_18 (h1 : σ[9]? = some (some (.str x))) (h2 : σ[10]? = some (some (.str y))) (mx : x ∈ ns) (my : y ∈ ns) (ne : x ≠ y) (lx : x.length ≤ 100) (ly : y.length ≤ 100) : Mk1 K C ns σ (tDisp [(tVar 10, tTup (tCons (tVar 9) tNil)), (tVar 9, tLst (tCons (tVar 10) (tCons (tVar 9) tNil)))]) := fun H Q q p np => by
  refine ⟨_, h2, _, h1, by show 1 ≤ sizeLine; decide, fun t nt => ⟨_, h1, _, h2, _, h1, by show 2 ≤ sizeLine; decide, fun b nb => ?_⟩⟩
  have tp : t ≠ p := (ne_of_none (o := .dK []) upd_same nt).symm
  have e1 := Same.new (u := .tup [.str x]) nt
  have e2 := Same.new (u := .lst [.str y, .str x]) nb
  have bp : b ≠ p := (ne_of_none (e1 _ _ (upd_same (H := H) (a := p) (o := .dK []))) nb).symm
  have e12 := e1.trans e2
  refine ⟨e12 p _ upd_same, [(.inr y, .ref t), (.inr x, .ref b)], rfl, by show 2 ≤ 15; decide, ?_⟩
  have mg : mergeK [] [((.inr y : Key), V.ref t), (.inr x, .ref b)] = [(.inr y, .ref t), (.inr x, .ref b)] := by
    show putK [((.inr y : Key), V.ref t)] (.inr x) (.ref b) = _
    exact putK_new (kvs := [((.inr y : Key), V.ref t)]) (V.ref b) (valV_neg (r := []) (fun z => ne (Sum.inr.inj z).symm))
  rw [mg]
  have gp : (upd (upd (upd (upd H p (.dK [])) t (.tup [.str x])) b (.lst [.str y, .str x])) p (.dK [((.inr y : Key), V.ref t), (.inr x, .ref b)])) p = some (.dK [((.inr y : Key), V.ref t), (.inr x, .ref b)]) := upd_same
  have gt : (upd (upd (upd (upd H p (.dK [])) t (.tup [.str x])) b (.lst [.str y, .str x])) p (.dK [((.inr y : Key), V.ref t), (.inr x, .ref b)])) t = some (mkX true [.str x]) := by rw [upd_ne tp]; exact e2 _ _ upd_same
  have gb : (upd (upd (upd (upd H p (.dK [])) t (.tup [.str x])) b (.lst [.str y, .str x])) p (.dK [((.inr y : Key), V.ref t), (.inr x, .ref b)])) b = some (mkX false [.str y, .str x]) := by rw [upd_ne bp, upd_same] <;> rfl
  have two : ∀ z ∈ [V.str y, V.str x], z = .str y ∨ z = .str x := fun z m => by simpa using m
  have look : lookK [((.inr y : Key), some [V.str x]), (.inr x, some [.str y, .str x])] (.inr x) = some (some [.str y, .str x]) := by
    have z : ¬ y = x := fun z => ne z.symm
    simp [lookK, List.find?_cons, z]
  refine q _ _ (disp_fin np e12) fun F nF => ?_
  obtain ⟨a1, s1⟩ := arg_seq (K := K) (C := C) (nF t _ mkX_tbl (up_free nt) gt) (fun z m => by rw [List.mem_singleton.mp m]; exact any_str lx) (by simp) (fun z m => by rw [List.mem_singleton.mp m]; exact self_str lx)
  obtain ⟨a2, s2⟩ := arg_seq (K := K) (C := C) (nF b _ mkX_tbl (up_free (up_free nb)) gb) (fun z m => (two z m).elim (fun e => by rw [e]; exact any_str ly) fun e => by rw [e]; exact any_str lx) (by simp) (fun z m => (two z m).elim (fun e => by rw [e]; exact self_str ly) fun e => by rw [e]; exact self_str lx)
  refine odd_dct (nF p _ (by intro ps z; cases z) np gp) (fun z m => ?_) (by simp) (.cons ⟨rfl, a1⟩ (.cons ⟨rfl, a2⟩ .nil)) (book_bad mx (by rw [entB_some look (unl_two my mx fun z => ne z.symm)]; simp)) fun z m => ?_
  · have e : z = (.inr y, .ref t) ∨ z = (.inr x, .ref b) := by simpa using m
    rcases e with rfl | rfl
    · exact ly
    · exact lx
  · have e : z = (.inr y, .ref t) ∨ z = (.inr x, .ref b) := by simpa using m
    rcases e with rfl | rfl
    · exact ⟨self_str ly, s1⟩
    · exact ⟨self_str lx, s2⟩
theorem mk_19 : Mk1 K C ns σ (tDispN (tC .non) (tTup tNil)) := fun H Q q p np => by
  refine ⟨Nat.zero_le _, fun b nb => ?_⟩
  have bp : b ≠ p := (ne_of_none (o := .dK []) upd_same nb).symm
  have e1 := Same.new (u := .tup []) nb
  refine ⟨e1 p _ upd_same, b, rfl, ?_⟩
  have gb : (upd (upd (upd H p (.dK [])) b (.tup [])) p (oneO p .none (.ref b))) b = some (.tup []) := by rw [upd_ne bp, upd_same]
  refine q _ _ (fun c o ec => ?_) fun F nF => odd_one (k := .non) (u := .ref b) (nF p _ (by intro ps z; unfold oneO at z; cases z) np upd_same) rfl rfl .non rfl rfl self_non (self_seq (tp := true) (xs := []) (nF b _ (by intro ps z; cases z) (up_free nb) gb) (by simp) fun z m => by cases m)
  have cp : c ≠ p := ne_of_none ec np
  rw [upd_ne cp]
  exact e1 c o (by rw [upd_ne cp]; exact ec)
theorem mk_21 (h1 : σ[9]? = some (some (.str x))) (h2 : σ[10]? = some (some (.str y))) (mx : x ∈ ns) (lx : x.length ≤ 100) (ly : y.length ≤ 100) : Mk1 K C ns σ (tDisp [(tVar 9, tLst (tCons (tLst (tCons (tVar 10) tNil)) tNil))]) := fun H Q q p np => by
  refine ⟨_, h1, _, h2, by show 1 ≤ sizeLine; decide, fun t nt => ⟨by show 1 ≤ sizeLine; decide, fun b nb => ?_⟩⟩
  have tp : t ≠ p := (ne_of_none (o := .dK []) upd_same nt).symm
  have e1 := Same.new (u := .lst [.str y]) nt
  have e2 := Same.new (u := .lst [.ref t]) nb
  have bp : b ≠ p := (ne_of_none (e1 _ _ (upd_same (H := H) (a := p) (o := .dK []))) nb).symm
  refine disp_one (kk := .inr x) (r := some [.ref t]) np (e1.trans e2) (fun F f => arg_seq (tp := false) (f b _ (by intro ps z; cases z) (up_free (up_free nb)) bp upd_same) (fun z m => ?_) (by simp) fun z m => ?_) lx (book_bad mx (entB_bad (look_one _ _) (unl_odd rfl))) q
  · rw [List.mem_singleton.mp m]
    exact ⟨_, .lst (f t _ (by intro ps z; cases z) (up_free nt) tp (e2 _ _ upd_same))⟩
  · rw [List.mem_singleton.mp m]
    refine self_seq (tp := false) (xs := [.str y]) (f t _ (by intro ps z; cases z) (up_free nt) tp (e2 _ _ upd_same)) (by simp) fun u mu => ?_
    rw [List.mem_singleton.mp mu]
    exact self_str ly
end
end OB
namespace OB
open PySem PySem.Spec PyProof.Rows L2 LamX
/-- a def whose code object is told -/
structure FunC (K : PySem.W.Frag) (x qual : Str) (st : Stmt) (f : Addr) (fd : FuncData) (c : Addr) : Prop where
  ex : ∃ (oc : Value) (od : Option Addr) (kV doc pm : Value) (an : Option Addr) (ct : Value) (osl : Array (Option Value)),
    fd = PySem.W.fnOf x qual (defArgs st) (defBody st) (defScope st) .none kV doc pm an (.ref c) ct ∧ K.lookup f = some ⟨oc, od, .func fd, osl⟩ ∧ PySem.W.codeIn K (.ref c) qual = true
  kp : PySem.W.keepIn K (.ref f) = true
theorem FunC.f {K : PySem.W.Frag} {x qual : Str} {st : Stmt} {f : Addr} {fd : FuncData} {c : Addr} (F : FunC K x qual st f fd c) : Fun K x qual st f fd := by
  obtain ⟨oc, od, kV, doc, pm, an, ct, osl, e, l, h⟩ := F.ex
  exact ⟨⟨oc, od, kV, doc, pm, an, _, ct, osl, e, l, h⟩, F.kp⟩
section
variable {P : Program} {w : World} {K : PySem.W.Frag} {mg : Str → Option Value} {base : Heap}
theorem FunC.ok {x qual : Str} {st : Stmt} {f c : Addr} {fd : FuncData} {N ps : List Str} {k : Nat} {sp : Sp} (F : FunC K x qual st f fd c) (S : FnScope N ps (defScope st)) (len : ∀ vs H Q E, sp vs H Q E → vs.length = ps.length)
    (hbody : ∀ (A : Around) (outer : List Env) (s : Shared) (H : Hp) (vs : List V) (Q : VK) (E : XK), Room k (A.deeper (envOfC qual (defScope st) s.heap.objs.size f (.ref c))) → sp vs H Q E →
      ∃ t, PSs (cxOf CX0 P w K mg base N qual (defScope st) f (.ref c) A outer s H E).nox (defBody st) t ∧ t { nx := fun _ H' => Q .non H', rt := Q } (start N vs) H) : FnOk P w K mg base CX0 (k + 1) f fd ps sp := by
  obtain ⟨oc, od, kV, doc, pm, an, ct, osl, rfl, lk, hcd⟩ := F.ex
  refine fn_of lk hcd S len fun A outer s H vs Q E hr hsp => ?_
  obtain ⟨t, h, q⟩ := hbody A outer s H vs Q E hr hsp
  exact ⟨t, h.nox, q⟩
end
/-! ### a call of a variable that holds a def which may raise -/
structure HeldX (P : Program) (w : World) (K : PySem.W.Frag) (mg : Str → Option Value) (base : Heap) (CX : CXT) (k : Nat) (f : Addr) (sp : Sp) : Prop where
  ex : ∃ (fd : FuncData) (ps : List Str), FnOk P w K mg base CX k f fd ps sp ∧ PySem.W.keepIn K (.ref f) = true ∧ Binds K fd ps []
def tCallAH (P : Program) (w : World) (K : PySem.W.Frag) (mg : Str → Option Value) (base : Heap) (CX : CXT) (k i : Nat) (E : L2.St → XK) (t : TA) : TE := fun σ H Q => ∃ f sp, σ[i]? = some (some (.ref f)) ∧ HeldX P w K mg base CX k f sp ∧ t σ H fun vs H1 => sp vs H1 Q (E σ)
section
variable {X : Cx} {CX : CXT} {k i : Nat} {E : L2.St → XK} {x : Str} {p pos : Pos} {e : Expr} {es : List Expr} {t : TA}
theorem pe_callAH (hr : Room k X.A) (hN : X.N[i]? = some x) (hv : Vis X.env.scope x) (hx : ∀ σ, PassesAt CX X σ (E σ)) (ha : PA X (e :: es) t)
    (hdb : (x == ("__debug__" : Str)) = false := by decide) (hcd : (x == ("__classdict__" : Str)) = false := by decide)
    (he : starEach (e :: es) X.env = (false, eval e X.env) :: starEach es X.env := by rfl) (hpl : (backTo pos (starEach es X.env)).any (·.1) = false := by rfl) : PE X (.Call (.Name x p) (e :: es) [] pos) (tCallAH X.prog X.w X.K X.mg X.base CX k i E t) := by
  refine ⟨fun pins s σ H Q I h => ?_⟩
  obtain ⟨f, sp, hs, hS, ht⟩ := h
  obtain ⟨fd, ps, F, hk, hb⟩ := hS.ex
  refine wpAny_Call_Name_kw (thn ((pe_var (pos := p) hN hv hdb hcd).run pins s σ H (fun v H1 => v = .ref f ∧ H1 = H) I ⟨.ref f, hs, rfl, rfl⟩) fun u s1 ⟨v, H1, I1, r1, q1⟩ => ?_)
  obtain ⟨rfl, rfl⟩ := q1
  cases r1
  refine PySem.W.callWith_K (h₀ := X.base) I.ok.mod.kin hk (thn (ha.run pos pins s1 σ _ _ I1 ht) fun us s2 ⟨vs, H2, I2, r, q⟩ => ⟨I2.kIn, ?_⟩) he hpl
  exact run_fnS F hr hb (hx σ) I2 r q
end
/-! ### lists of what is made -/
def MkH (H0 : Hp) (Pd : Hp → V → Prop) (σ : L2.St) (t : TE) : Prop := ∀ (H : Hp) (Q : VK), Same H0 H → (∀ v G, Same H G → (∀ F, ExtN H0 F → New H G F → Pd F v) → Q v G) → t σ H Q
def MkL (H0 : Hp) (Pd : Hp → V → Prop) (σ : L2.St) (t : TA) (n : Nat) : Prop := ∀ (H : Hp) (Q : List V → Hp → Prop), Same H0 H → (∀ vs G, Same H G → vs.length = n → (∀ F, ExtN H0 F → New H G F → ∀ v ∈ vs, Pd F v) → Q vs G) → t σ H Q
theorem New.first {H G G2 F : Hp} (n : New H G2 F) (e : Same G G2) : New H G F := fun c o nt hc hg => n c o nt hc (e _ _ hg)
theorem New.second {H G G2 F : Hp} (n : New H G2 F) (e : Same H G) : New G G2 F := fun c o nt hc hg => n c o nt (e.free hc) hg
theorem mkl_nil {H0 : Hp} {Pd : Hp → V → Prop} {σ : L2.St} : MkL H0 Pd σ tNil 0 := fun H Q e q => q [] H (Same.refl H) rfl fun F _ _ v m => by cases m
theorem mkl_cons {H0 : Hp} {Pd : Hp → V → Prop} {σ : L2.St} {t : TE} {ta : TA} {n : Nat} (h : MkH H0 Pd σ t) (r : MkL H0 Pd σ ta n) : MkL H0 Pd σ (tCons t ta) (n + 1) := fun H Q e q =>
  h H _ e fun v G e1 p => r G _ (e.trans e1) fun vs G2 e2 l all => q _ G2 (e1.trans e2) (by rw [List.length_cons, l]) fun F eF nF u m => by
    rcases List.mem_cons.mp m with rfl | m
    · exact p F eF (nF.first e2)
    · exact all F eF (nF.second e1) u m
theorem Mk1.h {K : PySem.W.Frag} {C : Addr} {ns : List Str} {σ : L2.St} {t : TE} {H0 : Hp} (h : Mk1 K C ns σ t) : MkH H0 (OddB K C ns) σ t := fun H Q _ q => h H Q fun v G e f => q v G e fun F _ nF => f F nF
/-! ### what refuses -/
structure Asks (K : PySem.W.Frag) (C CL CK CN : Addr) (sp : Sp) : Prop where
  land : ∀ {lv bv av : V} {H : Hp} {Q : VK} {E : XK}, LandQ K C H lv false → Bad E H CL "thing" lv → sp [lv, bv, av] H Q E
  book : ∀ {l : Addr} {ns : List Str} {m : Int} {bv av : V} {r : Option BkR} {H : Hp} {Q : VK} {E : XK}, LandQ K C H (.ref l) true → LandAt H C l (ns.map V.str) m → GoodN ns → BkW K H bv r → bookOf ns r = none → Bad E H CK "book" bv → sp [.ref l, bv, av] H Q E
  adr : ∀ {l : Addr} {ns : List Str} {m : Int} {bv av : V} {k : Kd} {r : Option BkR} {sc : Str → Option (List Str)} {H : Hp} {Q : VK} {E : XK}, LandQ K C H (.ref l) true → LandAt H C l (ns.map V.str) m → GoodN ns → BkW K H bv r → bookOf ns r = some sc → Any K H av k → wordIn ns av = false → Bad E H CN "address" av → sp [.ref l, bv, av] H Q E
theorem along_asks {K : PySem.W.Frag} {C CL CK CN : Addr} {tell : List Str → (Str → Option (List Str)) → Str → VK → Hp → Prop} : Asks K C CL CK CN (spAlong K C CL CK CN tell) where
  land := fun lq b => ⟨_, _, _, false, rfl, lq, fun _ => b, fun z => by cases z⟩
  book := fun {l ns m bv av r H Q E} lq la g bw no b => ⟨_, _, _, true, rfl, lq, (fun z => by cases z), fun _ => ⟨l, ns, m, r, rfl, la, g, bw, fun _ => b, fun sc z => by rw [no] at z; cases z⟩⟩
  adr := fun {l ns m bv av k r sc H Q E} lq la g bw yes a no b => ⟨_, _, _, true, rfl, lq, (fun z => by cases z), fun _ => ⟨l, ns, m, r, rfl, la, g, bw, (fun z => by rw [yes] at z; cases z), fun sc2 _ => ⟨k, a, fun _ => b, fun ad e m => by
    rw [e] at no
    have z : decide (ad ∈ ns) = false := no
    rw [decide_eq_true m] at z
    cases z⟩⟩⟩
theorem Tabs.put {T : List (Addr × Str)} {H : Hp} {l : Addr} {u u' : HO} (t : Tabs T H) (hl : H l = some u) (n1 : ∀ ps, u ≠ .tbl ps) (n2 : ∀ φ, u ≠ .ext φ) : Tabs T (upd H l u') := fun y hy => by
  obtain ⟨ps, h1, h2, h3⟩ := t y hy
  refine ⟨ps, by rw [upd_ne (ne_of h1 hl fun z => n1 ps z.symm)]; exact h1, h2, fun pos cv hc => ?_⟩
  obtain ⟨c, e1, e2⟩ := h3 pos cv hc
  exact ⟨c, e1, by rw [upd_ne (ne_of e2 hl fun z => n2 _ z.symm)]; exact e2⟩
abbrev sRefR : Stmt := top 48
def qRef : Str := "_law_refused_right.<locals>.<lambda>"
def Nref : List Str := ["draws", "land", "names", "book", "odds", "found", "ask", "held", "odd", "one", "other"]
structure OutN (ns : List Str) : Prop where
  none : ("none" : Str) ∉ ns
  late : ("late!" : Str) ∉ ns
  empty : ("" : Str) ∉ ns
def spRefR (K : PySem.W.Frag) (C : Addr) (TT : List (Addr × Str)) : Sp := fun vs H Q _ => ∃ (p l a b : Addr) (ns : List Str) (m : Int) (r : Option BkR) (sc : Str → Option (List Str)), vs = [.ref p, .ref l, .ref a, .ref b] ∧ LandAt H C l (ns.map V.str) m ∧ LandQ K C H (.ref l) true ∧ H a = some (.lst (ns.map V.str)) ∧ GoodN ns ∧ OutN ns ∧ 2 ≤ ns.length ∧ BkW K H (.ref b) r ∧ bookOf ns r = some sc ∧ Tabs TT H ∧ ∀ H', ExtN H H' → Tabs TT H' → Q (.bl true) H'
section
variable {P : Program} {w : World} {K : PySem.W.Frag} {mg : Str → Option Value} {base : Heap}
theorem scRefR : FnScope Nref ["draws", "land", "names", "book"] (defScope sRefR) := ⟨rfl, rfl, rfl, by decide +kernel, rfl, by decide +kernel, by decide +kernel⟩
end
end OB
namespace OB
open PySem PySem.Spec PyProof.Rows L2 LamX
/-! ### the law's look at what is refused -/
section
variable {K : PySem.W.Frag} {C : Addr} {ns : List Str} {H0 : Hp} {σ : L2.St} {x : Str}
theorem mka_flat {v : V} {k : Kd} (a : ∀ G, Any K G v k) (h : wordIn ns v = false) (s : ∀ G, Self K C 6 G v) : MkH H0 (OddA K C ns) σ (tC v) := fun H Q _ q => q _ H (Same.refl H) fun F _ _ => ⟨⟨k, a F⟩, h, s F⟩
theorem mka_lst (h1 : σ[9]? = some (some (.str x))) (lx : x.length ≤ 100) : MkH H0 (OddA K C ns) σ (tLst (tCons (tVar 9) tNil)) := fun H Q _ q => ⟨_, h1, by show 1 ≤ sizeLine; decide, fun p np => q _ _ (Same.new np) fun F _ nF => by
  have g := nF p _ (by intro ps z; cases z) np upd_same
  exact ⟨⟨_, .lst g⟩, rfl, self_seq (tp := false) g (by simp) fun z m => by rw [List.mem_singleton.mp m]; exact self_str lx⟩⟩
theorem mka_tup (h1 : σ[9]? = some (some (.str x))) (lx : x.length ≤ 100) : MkH H0 (OddA K C ns) σ (tTup (tCons (tVar 9) tNil)) := fun H Q _ q => ⟨_, h1, by show 1 ≤ sizeLine; decide, fun p np => q _ _ (Same.new np) fun F _ nF => by
  have g := nF p _ (by intro ps z; cases z) np upd_same
  exact ⟨⟨_, .tup g⟩, rfl, self_seq (tp := true) g (by simp) fun z m => by rw [List.mem_singleton.mp m]; exact self_str lx⟩⟩
theorem mka_dct : MkH H0 (OddA K C ns) σ tDNewK := fun H Q _ q p np => q _ _ (Same.new np) fun F _ nF => by
  have g := nF p _ (by intro ps z; cases z) np upd_same
  exact ⟨⟨_, .dct g⟩, rfl, self_dct (kvs := []) g (by simp) fun q m => by cases m⟩
end
section
variable {P : Program} {w : World} {K : PySem.W.Frag} {mg : Str → Option Value} {base : Heap}
theorem ok_refR {f c Pt fS fT fF fG fA C : Addr} {fd fdS fdT fdF fdG fdA : FuncData} {C3 : Cls3} {TT : List (Addr × Str)} (F : FunC K "_law_refused_right" "_law_refused_right" sRefR f fd c) (L : LandM P w K mg base C fA fdA)
    (GS : FnOk P w K mg base CX0 9 fS fdS ["found", "due"] (spSame (SameV K C 8))) (gS : mg "_law_same" = some (.ref fS)) (kS : PySem.W.keepIn K (.ref fS) = true) (bS : Binds K fdS ["found", "due"] [])
    (FT : Fun K "_law_met" "_law_met" sMet fT fdT) (bT : Binds K fdT ["ask"] []) (gT : mg "_law_met" = some (.ref fT)) (ME : MetK K mg C3)
    (GF : FnOk P w K mg base (L2.CX P w) 5 fF fdF ["land", "book", "address"] (spAlong K C C3.L C3.B C3.N tellF)) (gF : mg "follow" = some (.ref fF)) (kF : PySem.W.keepIn K (.ref fF) = true) (bF : Binds K fdF ["land", "book", "address"] [])
    (GG : FnOk P w K mg base (L2.CX P w) 5 fG fdG ["land", "book", "address"] (spAlong K C C3.L C3.B C3.N tellR)) (gG : mg "ring_of" = some (.ref fG)) (kG : PySem.W.keepIn K (.ref fG) = true) (bG : Binds K fdG ["land", "book", "address"] [])
    (TB : TabB base mg c Pt) (hT : ∀ y ∈ TT, y.1 = Pt → y.2 = qRef) (mT : (Pt, qRef) ∈ TT) : FnOk P w K mg base CX0 10 f fd ["draws", "land", "names", "book"] (spRefR K C TT) := by
  obtain ⟨ocT, odT, kVT, docT, pmT, anT, cdT, ctT, oslT, rfl, lkT, hcT⟩ := FT.ex
  refine F.ok scRefR (fun vs H Q E h => ?_) (fun A outer s H vs Q E hr h => ?_)
  · obtain ⟨p, l, a, b, ns, m, r, sc, rfl, _⟩ := h
    rfl
  · obtain ⟨p, l, a, b, ns, m, r, sc, rfl, la, lq, ha, g, out, n2, bw, byes, tabs, q⟩ := h
    have nd := scRefR.nd
    have hr7 := hr.mono (show 7 ≤ 9 by decide)
    have hun := hr.units
    have hu : (A.deeper (envOfC "_law_refused_right" (defScope sRefR) s.heap.objs.size f (.ref c))).units < cLine := Nat.lt_of_le_of_lt (Nat.le_add_right _ _) hun
    have hu2 : (A.deeper (envOfC "_law_refused_right" (defScope sRefR) s.heap.objs.size f (.ref c))).units + 1 < cLine := Nat.lt_of_le_of_lt (Nat.add_le_add_left (by decide : 1 ≤ 64) _) hun
    refine ⟨_, pss_cons (ps_asg (pe_slice sl_list (pv 2) po_none (po_some pe_int)) (pg_unl rfl (pgs_cons (pg_name (i := 9) nd rfl (Or.inr rfl)) (pgs_cons (pg_name (i := 10) nd rfl (Or.inr rfl)) pgs_nil))))
      (pss_cons (ps_set (i := 4) nd rfl (Or.inl rfl) (pe_lst (pa_cons pe_non (pa_cons pe_int (pa_cons pe_str (pa_cons (pe_lst pa_nil) (pa_cons (pe_tup pa_nil) (pa_cons pe_bl (pa_cons (pe_lst (pa_cons (pe_tup (pa_cons (pv 9) (pa_cons (pe_tup (pa_cons (pv 10) pa_nil)) pa_nil))) pa_nil)) (pa_cons (pe_disp (pps_cons (pv 9) pe_non pps_nil) (by rfl) (by rfl) (fun z => by cases z) (by decide)) (pa_cons (pe_disp (pps_cons (pv 9) (pv 10) pps_nil) (by rfl) (by rfl) (fun z => by cases z) (by decide)) (pa_cons (pe_disp (pps_cons (pv 9) (pe_tup (pa_cons (pv 9) pa_nil)) pps_nil) (by rfl) (by rfl) (fun z => by cases z) (by decide)) (pa_cons (pe_disp (pps_cons pe_str (pe_tup pa_nil) pps_nil) (by rfl) (by rfl) (fun z => by cases z) (by decide)) pa_nil)))))))))))))
      (pss_cons (ps_expr (pe_bm PySem.F.plainAttrs_list PySem.F.slot_list_extend PySem.F.type_list_extend mt_extend (pv 4) (pa_cons (pe_lst (pa_cons (pe_disp (pps_cons (pv 9) (pe_tup (pa_cons (pv 10) (pa_cons (pv 10) pa_nil))) pps_nil) (by rfl) (by rfl) (fun z => by cases z) (by decide)) (pa_cons (pe_disp (pps_cons (pv 9) (pe_tup (pa_cons pe_str pa_nil)) pps_nil) (by rfl) (by rfl) (fun z => by cases z) (by decide)) (pa_cons (pe_disp (pps_cons pe_int (pe_tup pa_nil) pps_nil) (by rfl) (by rfl) (fun z => by cases z) (by decide)) (pa_cons (pe_disp (pps_cons (pv 9) pe_dnewK pps_nil) (by rfl) (by rfl) (fun z => by cases z) (by decide)) (pa_cons (pe_dispT hu (pps_cons (pe_tup (pa_cons (pv 9) pa_nil)) (pe_tup (pa_cons (pv 10) pa_nil)) pps_nil)) (pa_cons (pe_disp (pps_cons (pv 9) (pe_tup (pa_cons pe_non pa_nil)) pps_nil) (by rfl) (by rfl) (fun z => by cases z) (by decide)) pa_nil))))))) pa_nil)))
      (pss_cons (ps_expr (pe_bm PySem.F.plainAttrs_list PySem.F.slot_list_extend PySem.F.type_list_extend mt_extend (pv 4) (pa_cons (pe_lst (pa_cons (pe_disp (pps_cons (pv 10) (pe_tup (pa_cons (pv 9) pa_nil)) (pps_cons (pv 9) (pe_lst (pa_cons (pv 10) (pa_cons (pv 9) pa_nil))) pps_nil)) (by rfl) (by rfl) (fun z => by cases z) (by decide)) (pa_cons (pe_dispN (pps_cons pe_non (pe_tup pa_nil) pps_nil)) (pa_cons (pv 1) (pa_cons (pe_disp (pps_cons (pv 9) (pe_lst (pa_cons (pe_lst (pa_cons (pv 10) pa_nil)) pa_nil)) pps_nil) (by rfl) (by rfl) (fun z => by cases z) (by decide)) pa_nil))))) pa_nil)))
      (pss_cons (ps_for PassesOwn.never rfl (pi_list (pv 4)) (pg_name (i := 8) nd rfl (Or.inr rfl)) (pss_one (ps_for PassesOwn.never rfl (pi_tup (pe_tup (pa_cons (pe_glob (v := .ref fF) (by rfl) gF rfl) (pa_cons (pe_glob (v := .ref fG) (by rfl) gG rfl) pa_nil)))) (pg_name (i := 6) nd rfl (Or.inr rfl))
        (pss_cons (ps_set (i := 5) nd rfl (Or.inl rfl) (pe_lst (pa_cons (pe_lamcall (k := 5) (T := TT) (t := fun E => tCallAH P w K mg base (L2.CX P w) 5 6 (fun _ => E) (tCons (tC .non) (tCons (tVar 8) (tCons (tC .non) tNil)))) (TT := TTMet C3) (by rfl) gT FT.kp lkT hcT bT scMet rfl (Or.inl rfl) (met_gives ME) TB rfl mT hT hr7 (lamS_by (sc := defScope sRefR) (by decide +kernel)) rfl (fun _ _ _ _ _ => rfl) (fun A outer s H E f c' hr' => pe_callAH (i := 6) (E := fun _ => E) (CX := L2.CX P w) hr' rfl (by first | exact Or.inl rfl | exact Or.inr (Or.inl rfl) | exact Or.inr (Or.inr rfl)) (fun σ pins H s e s' I c => passes_call (takes_of rfl rfl rfl rfl) (fun _ _ _ _ h => h) pins σ H s e s' I c) (pa_cons pe_non (pa_cons (pv 8) (pa_cons pe_non pa_nil))))) pa_nil)))
        (pss_cons (ps_expr (pe_bm PySem.F.plainAttrs_list PySem.F.slot_list_append PySem.F.type_list_append mt_append (pv 5) (pa_cons (pe_lamcall (k := 5) (T := TT) (t := fun E => tCallAH P w K mg base (L2.CX P w) 5 6 (fun _ => E) (tCons (tVar 1) (tCons (tVar 8) (tCons (tC .non) tNil)))) (TT := TTMet C3) (by rfl) gT FT.kp lkT hcT bT scMet rfl (Or.inl rfl) (met_gives ME) TB rfl mT hT hr7 (lamS_by (sc := defScope sRefR) (by decide +kernel)) rfl (fun _ _ _ _ _ => rfl) (fun A outer s H E f c' hr' => pe_callAH (i := 6) (E := fun _ => E) (CX := L2.CX P w) hr' rfl (by first | exact Or.inl rfl | exact Or.inr (Or.inl rfl) | exact Or.inr (Or.inr rfl)) (fun σ pins H s e s' I c => passes_call (takes_of rfl rfl rfl rfl) (fun _ _ _ _ h => h) pins σ H s e s' I c) (pa_cons (pv 1) (pa_cons (pv 8) (pa_cons pe_non pa_nil))))) pa_nil)))
        (pss_one (ps_if (pt_not (pt_val (pe_call GS hr (by rfl) gS kS bS .nil pass0 (pa_cons (pv 5) (pa_cons (pe_lst (pa_cons (pe_tup (pa_cons pe_str (pa_cons pe_non pa_nil))) (pa_cons (pe_tup (pa_cons pe_str (pa_cons (pv 8) pa_nil))) pa_nil))) pa_nil))))) (pss_one (ps_ret pe_bl)) pss_nil)))))))
      (pss_cons (ps_for PassesOwn.never rfl (pi_list (pe_lst (pa_cons pe_non (pa_cons pe_int (pa_cons pe_str (pa_cons pe_str (pa_cons (pe_lst (pa_cons (pv 9) pa_nil)) (pa_cons (pe_tup (pa_cons (pv 9) pa_nil)) (pa_cons pe_dnewK (pa_cons pe_bl (pa_cons (pv 1) pa_nil))))))))))) (pg_name (i := 8) nd rfl (Or.inr rfl)) (pss_one (ps_for PassesOwn.never rfl (pi_tup (pe_tup (pa_cons (pe_glob (v := .ref fF) (by rfl) gF rfl) (pa_cons (pe_glob (v := .ref fG) (by rfl) gG rfl) pa_nil)))) (pg_name (i := 6) nd rfl (Or.inr rfl))
        (pss_cons (ps_set (i := 5) nd rfl (Or.inl rfl) (pe_lst (pa_cons (pe_lamcall (k := 5) (T := TT) (t := fun E => tCallAH P w K mg base (L2.CX P w) 5 6 (fun _ => E) (tCons (tVar 1) (tCons (tVar 3) (tCons (tVar 8) tNil)))) (TT := TTMet C3) (by rfl) gT FT.kp lkT hcT bT scMet rfl (Or.inl rfl) (met_gives ME) TB rfl mT hT hr7 (lamS_by (sc := defScope sRefR) (by decide +kernel)) rfl (fun _ _ _ _ _ => rfl) (fun A outer s H E f c' hr' => pe_callAH (i := 6) (E := fun _ => E) (CX := L2.CX P w) hr' rfl (by first | exact Or.inl rfl | exact Or.inr (Or.inl rfl) | exact Or.inr (Or.inr rfl)) (fun σ pins H s e s' I c => passes_call (takes_of rfl rfl rfl rfl) (fun _ _ _ _ h => h) pins σ H s e s' I c) (pa_cons (pv 1) (pa_cons (pv 3) (pa_cons (pv 8) pa_nil))))) pa_nil)))
        (pss_cons (ps_expr (pe_bm PySem.F.plainAttrs_list PySem.F.slot_list_append PySem.F.type_list_append mt_append (pv 5) (pa_cons (pe_lamcall (k := 5) (T := TT) (t := fun E => tCallAH P w K mg base (L2.CX P w) 5 6 (fun _ => E) (tCons (tLst (tCons (tVar 9) (tCons (tVar 10) tNil))) (tCons (tVar 3) (tCons (tVar 8) tNil)))) (TT := TTMet C3) (by rfl) gT FT.kp lkT hcT bT scMet rfl (Or.inl rfl) (met_gives ME) TB rfl mT hT hr7 (lamS_by (sc := defScope sRefR) (by decide +kernel)) rfl (fun _ _ _ _ _ => rfl) (fun A outer s H E f c' hr' => pe_callAH (i := 6) (E := fun _ => E) (CX := L2.CX P w) hr' rfl (by first | exact Or.inl rfl | exact Or.inr (Or.inl rfl) | exact Or.inr (Or.inr rfl)) (fun σ pins H s e s' I c => passes_call (takes_of rfl rfl rfl rfl) (fun _ _ _ _ h => h) pins σ H s e s' I c) (pa_cons (pe_lst (pa_cons (pv 9) (pa_cons (pv 10) pa_nil))) (pa_cons (pv 3) (pa_cons (pv 8) pa_nil))))) pa_nil)))
        (pss_one (ps_if (pt_not (pt_val (pe_call GS hr (by rfl) gS kS bS .nil pass0 (pa_cons (pv 5) (pa_cons (pe_lst (pa_cons (pe_tup (pa_cons pe_str (pa_cons (pv 8) pa_nil))) (pa_cons (pe_tup (pa_cons pe_str (pa_cons (pe_lst (pa_cons (pv 9) (pa_cons (pv 10) pa_nil))) pa_nil))) pa_nil))) pa_nil))))) (pss_one (ps_ret pe_bl)) pss_nil)))))))
      (pss_cons (ps_set (i := 7) nd rfl (Or.inr rfl) (pe_disp (pps_cons pe_str (pe_tup pa_nil) pps_nil) (by rfl) (by rfl) (fun z => by cases z) (by decide)))
      (pss_cons (ps_set (i := 5) nd rfl (Or.inl rfl) (pe_lamcall (k := 5) (T := TT) (t := fun E => tCall (spAlong K C C3.L C3.B C3.N tellF) [] E (tCons (tVar 1) (tCons (tVar 7) (tCons (tVar 9) tNil)))) (TT := TTMet C3) (by rfl) gT FT.kp lkT hcT bT scMet rfl (Or.inl rfl) (met_gives ME) TB rfl mT hT hr7 (lamS_by (sc := defScope sRefR) (by decide +kernel)) rfl (fun _ _ _ _ _ => rfl) (fun A outer s H E f c' hr' => pe_call (E := E) GF hr' (by rfl) gF kF bF .nil (passes_call (takes_of rfl rfl rfl rfl) fun _ _ _ _ h => h) (pa_cons (pv 1) (pa_cons (pv 7) (pa_cons (pv 9) pa_nil))))))
      (pss_cons (ps_dput hu2 (pv 7) pe_str pe_int rfl)
      (pss_one (ps_ret (pe_call GS hr (by rfl) gS kS bS .nil pass0 (pa_cons (pv 5) (pa_cons (pe_tup (pa_cons pe_str (pa_cons (pv 7) pa_nil))) pa_nil))))))))))))), ?_⟩
    obtain ⟨x, y, r2, ens⟩ : ∃ x y r2, ns = x :: y :: r2 := by
      match ns, n2 with
      | x :: y :: r2, _ => exact ⟨x, y, r2, rfl⟩
    have mx : x ∈ ns := by rw [ens]; simp
    have my : y ∈ ns := by rw [ens]; simp
    have ne : x ≠ y := fun z => by
      have := g.nd
      rw [ens, z] at this
      simp at this
    have lx := g.short x mx
    have ly := g.short y my
    refine ⟨_, rfl, 2, rfl, a, _, rfl, SqL.of ha, fun W nW => ?_⟩
    have ct : cutV (ns.map V.str) none (some 2) = [.str x, .str y] := (cut_to (ns.map V.str) 2 (by rw [List.length_map]; omega)).trans (by rw [ens] <;> rfl)
    rw [ct]
    have e1 : Same H (upd H W (.lst [.str x, .str y])) := Same.new nW
    refine ⟨W, _, rfl, SqL.of upd_same, rfl, .str x, _, rfl, .str y, _, rfl, rfl, ?_⟩
    generalize upd H W (.lst [.str x, .str y]) = H1 at e1
    have landB : ∀ F, ExtN H F → OddB K C ns F (.ref l) := fun F eF => by
      obtain ⟨dx, T, i1, i2⟩ := la.ext eF
      exact odd_flat (.ins i1 L.own) rfl (SameW.land ⟨dx, T, i1, i2⟩ g.lay)
    have landA : ∀ F, ExtN H F → OddA K C ns F (.ref l) := fun F eF => by
      obtain ⟨dx, T, i1, i2⟩ := la.ext eF
      exact ⟨⟨_, .ins i1 L.own⟩, rfl, SameW.land ⟨dx, T, i1, i2⟩ g.lay⟩
    have M1 : MkL H (OddB K C ns) [some (.ref p), some (.ref l), some (.ref a), some (.ref b), none, none, none, none, none, some (.str x), some (.str y)] (tCons (tC .non) (tCons (tC (.int 5)) (tCons (tC (.str "book")) (tCons (tLst tNil) (tCons (tTup tNil) (tCons (tC (.bl true)) (tCons (tLst (tCons (tTup (tCons (tVar 9) (tCons (tTup (tCons (tVar 10) tNil)) tNil))) tNil)) (tCons (tDisp [((tVar 9), (tC .non))]) (tCons (tDisp [((tVar 9), (tVar 10))]) (tCons (tDisp [((tVar 9), (tTup (tCons (tVar 9) tNil)))]) (tCons (tDisp [((tC (.str "none")), (tTup tNil))]) tNil))))))))))) 11 := (mkl_cons (Mk1.h (mk_flat (fun _ => .non) rfl (fun _ => self_non))) (mkl_cons (Mk1.h (mk_flat (fun _ => .int 5) rfl (fun _ => self_int 5))) (mkl_cons (Mk1.h (mk_flat (fun _ => .str (by decide)) rfl (fun _ => self_str (by decide)))) (mkl_cons (Mk1.h (mk_nilL)) (mkl_cons (Mk1.h (mk_nilT)) (mkl_cons (Mk1.h (mk_flat (fun _ => .bl true) rfl (fun _ => self_bl true))) (mkl_cons (Mk1.h (mk_7 rfl rfl lx ly)) (mkl_cons (Mk1.h (mk_8 rfl mx lx)) (mkl_cons (Mk1.h (mk_9 rfl rfl mx lx ly)) (mkl_cons (Mk1.h (mk_10 rfl mx lx)) (mkl_cons (Mk1.h (mk_11 out.none)) mkl_nil)))))))))))
    dsimp only
    show tSeq _ _ _ _ _
    show tAsg _ _ _ _ _
    show tLst _ _ _ _
    show tCons _ _ _ _ _
    refine M1 H1 _ e1 fun vs1 G1 e2 l1 b1 => ⟨by rw [l1]; decide, fun od nod => ?_⟩
    clear M1
    have E1 : Same H G1 := e1.trans e2
    have odH : H od = none := E1.free nod
    have E1b : Same H (upd G1 od (.lst vs1)) := E1.trans (Same.new nod)
    have s1 : ∀ c o, c ≠ od → G1 c = some o → (upd G1 od (.lst vs1)) c = some o := fun c o n ec => by rw [upd_ne n]; exact ec
    have o1 : (upd G1 od (.lst vs1)) od = some (.lst vs1) := upd_same
    dsimp only [gName]
    generalize upd G1 od (.lst vs1) = J1 at E1b s1 o1 ⊢
    have M2 : MkL H (OddB K C ns) [some (.ref p), some (.ref l), some (.ref a), some (.ref b), some (.ref od), none, none, none, none, some (.str x), some (.str y)] (tCons (tDisp [((tVar 9), (tTup (tCons (tVar 10) (tCons (tVar 10) tNil))))]) (tCons (tDisp [((tVar 9), (tTup (tCons (tC (.str "none")) tNil)))]) (tCons (tDisp [((tC (.int 5)), (tTup tNil))]) (tCons (tDisp [((tVar 9), tDNewK)]) (tCons (tDispT (tTup (tCons (tVar 9) tNil)) (tTup (tCons (tVar 10) tNil))) (tCons (tDisp [((tVar 9), (tTup (tCons (tC .non) tNil)))]) tNil)))))) 6 := (mkl_cons (Mk1.h (mk_12 rfl rfl mx lx ly)) (mkl_cons (Mk1.h (mk_13 rfl out.none mx lx)) (mkl_cons (Mk1.h (mk_14)) (mkl_cons (Mk1.h (mk_15 rfl mx lx)) (mkl_cons (Mk1.h (mk_16 rfl rfl lx ly)) (mkl_cons (Mk1.h (mk_17 rfl mx lx)) mkl_nil))))))
    refine ⟨_, rfl, .inl ⟨rfl, _, SqL.of o1⟩, ?_⟩
    show tLst _ _ _ _
    show tCons _ _ _ _ _
    refine M2 J1 _ E1b fun vs2 G2 e3 l2 b2 => ⟨by rw [l2]; decide, fun B2 nB2 => ⟨od, B2, _, _, rfl, rfl, (Same.new nB2) _ _ (e3 _ _ o1), upd_same, by rw [l1, l2]; decide, ?_⟩⟩
    clear M2
    have s2 : ∀ c o, c ≠ od → G2 c = some o → (upd (upd G2 B2 (.lst vs2)) od (.lst (vs1 ++ vs2))) c = some o := fun c o n ec => by rw [upd_ne n]; exact Same.new nB2 _ _ ec
    have o2 : (upd (upd G2 B2 (.lst vs2)) od (.lst (vs1 ++ vs2))) od = some (.lst (vs1 ++ vs2)) := upd_same
    have E2b : Same H (upd (upd G2 B2 (.lst vs2)) od (.lst (vs1 ++ vs2))) := fun c o ec => s2 c o (ne_of_none ec odH) (e3 _ _ (E1b _ _ ec))
    generalize upd (upd G2 B2 (.lst vs2)) od (.lst (vs1 ++ vs2)) = J2 at E2b s2 o2 ⊢
    have M3 : MkL H (OddB K C ns) [some (.ref p), some (.ref l), some (.ref a), some (.ref b), some (.ref od), none, none, none, none, some (.str x), some (.str y)] (tCons (tDisp [((tVar 10), (tTup (tCons (tVar 9) tNil))), ((tVar 9), (tLst (tCons (tVar 10) (tCons (tVar 9) tNil))))]) (tCons (tDispN (tC .non) (tTup tNil)) (tCons (tVar 1) (tCons (tDisp [((tVar 9), (tLst (tCons (tLst (tCons (tVar 10) tNil)) tNil)))]) tNil)))) 4 := (mkl_cons (Mk1.h (mk_18 rfl rfl mx my ne lx ly)) (mkl_cons (Mk1.h (mk_19)) (mkl_cons (fun H Q eH q => ⟨_, rfl, q _ _ (Same.refl _) fun F eF _ => landB F eF⟩) (mkl_cons (Mk1.h (mk_21 rfl rfl mx lx ly)) mkl_nil))))
    refine ⟨_, rfl, .inl ⟨rfl, _, SqL.of o2⟩, ?_⟩
    show tLst _ _ _ _
    show tCons _ _ _ _ _
    refine M3 J2 _ E2b fun vs3 G3 e4 l3 b3 => ⟨by rw [l3]; decide, fun B3 nB3 => ⟨od, B3, _, _, rfl, rfl, (Same.new nB3) _ _ (e4 _ _ o2), upd_same, by rw [List.length_append, l1, l2, l3]; decide, ?_⟩⟩
    clear M3
    have s3 : ∀ c o, c ≠ od → G3 c = some o → (upd (upd G3 B3 (.lst vs3)) od (.lst (vs1 ++ vs2 ++ vs3))) c = some o := fun c o n ec => by rw [upd_ne n]; exact Same.new nB3 _ _ ec
    have o3 : (upd (upd G3 B3 (.lst vs3)) od (.lst (vs1 ++ vs2 ++ vs3))) od = some (.lst (vs1 ++ vs2 ++ vs3)) := upd_same
    have EF : Same H (upd (upd G3 B3 (.lst vs3)) od (.lst (vs1 ++ vs2 ++ vs3))) := fun c o ec => s3 c o (ne_of_none ec odH) (e4 _ _ (E2b _ _ ec))
    generalize upd (upd G3 B3 (.lst vs3)) od (.lst (vs1 ++ vs2 ++ vs3)) = Hf at EF s3 o3 ⊢
    have XF : ExtN H Hf := ExtN.of EF
    have allB : ∀ v ∈ vs1 ++ vs2 ++ vs3, OddB K C ns Hf v := fun v mv => by
      rcases List.mem_append.mp mv with mv | mv
      · rcases List.mem_append.mp mv with mv | mv
        · exact b1 Hf XF (fun c o nt hc ec => by
            have n : c ≠ od := ne_of_none ec nod
            exact s3 c o n (e4 _ _ (s2 c o n (e3 _ _ (s1 c o n ec))))) v mv
        · exact b2 Hf XF (fun c o nt hc ec => by
            have n : c ≠ od := fun z => by rw [z, o1] at hc; cases hc
            exact s3 c o n (e4 _ _ (s2 c o n ec))) v mv
      · exact b3 Hf XF (fun c o nt hc ec => by
            have n : c ≠ od := fun z => by rw [z, o2] at hc; cases hc
            exact s3 c o n ec) v mv
    have tF : Tabs TT Hf := Tabs.ext tabs EF
    generalize vs1 ++ vs2 ++ vs3 = vs at o3 allB
    clear b1 b2 b3 s1 s2 s3 o1 o2 e2 e3 e4 E1 E1b E2b l1 l2 l3 nod nB2 nB3
    have asks : ∀ (j : Nat) v, ([V.ref fF, V.ref fG] : List V)[j]? = some v → ∃ fx sp, v = .ref fx ∧ HeldX P w K mg base (L2.CX P w) 5 fx sp ∧ Asks K C C3.L C3.B C3.N sp := fun j v e => by
      match j, e with
      | 0, e =>
        cases e
        exact ⟨fF, _, rfl, ⟨_, _, GF, kF, bF⟩, along_asks⟩
      | 1, e =>
        cases e
        exact ⟨fG, _, rfl, ⟨_, _, GG, kG, bG⟩, along_asks⟩
    refine ⟨_, rfl, od, rfl, ⟨_, SqL.of o3⟩, ?_⟩
    refine for_it (walk_list (xs := vs)) (fun i σ G => (∃ o5 o6 o8 : Option V, σ = [some (.ref p), some (.ref l), some (.ref a), some (.ref b), some (.ref od), o5, o6, none, o8, some (.str x), some (.str y)]) ∧ ExtN Hf G ∧ Tabs TT G) ⟨⟨_, _, _, rfl⟩, ExtN.refl _, tF⟩ (fun i σ G _ z => SqL.of (z.2.1 _ _ o3 (by intro ps z; cases z))) (fun i odd σ G G' hi z yy => ?_) (fun σ G z => ?_)
    · obtain ⟨⟨o5, o6, o8, rfl⟩, xG, tG⟩ := z
      obtain ⟨rfl, hx⟩ := yy
      have ob : OddB K C ns G' odd := (allB odd (List.mem_of_getElem? hx)).ext xG
      dsimp only [gName]
      refine ⟨by show 2 ≤ sizeLine; decide, fun wa nwa => ⟨wa, rfl, ⟨_, SqT.of upd_same⟩, ?_⟩⟩
      have ew : Same G' (upd G' wa (.tup [V.ref fF, V.ref fG])) := Same.new nwa
      have gw : (upd G' wa (.tup [V.ref fF, V.ref fG])) wa = some (.tup [V.ref fF, V.ref fG]) := upd_same
      have xw := xG.trans (ExtN.of ew)
      have tw := Tabs.ext tG ew
      have ob := ob.ext (ExtN.of ew)
      generalize upd G' wa (.tup [V.ref fF, V.ref fG]) = Gw at gw xw tw ob
      refine for_it (walk_tup (xs := [V.ref fF, V.ref fG])) (fun j σ G => (∃ o5 o6 : Option V, σ = [some (.ref p), some (.ref l), some (.ref a), some (.ref b), some (.ref od), o5, o6, none, some odd, some (.str x), some (.str y)]) ∧ ExtN Gw G ∧ Tabs TT G) ⟨⟨_, _, rfl⟩, ExtN.refl _, tw⟩ (fun j σ G _ z => SqT.of (z.2.1 _ _ gw (by intro ps z; cases z))) (fun j v σ G G2 hj z yy => ?_) (fun σ G z => ?_)
      · obtain ⟨⟨o5, o6, rfl⟩, x2, t2⟩ := z
        obtain ⟨rfl, hv⟩ := yy
        obtain ⟨fx, sp, rfl, hx2, As⟩ := asks j v hv
        have ob2 := ob.ext x2
        have la2 : LandAt G2 C l (ns.map V.str) m := la.ext ((XF.trans xw).trans x2)
        dsimp only [gName]
        refine ⟨t2, fun H3 e3 t3 => ⟨fx, sp, rfl, hx2, _, rfl, As.land L.non (met_bad .l fun G4 T e4 nT gT => ⟨by show 1 ≤ sizeLine; decide, fun F nF => ?_⟩)⟩⟩
        have TF : T ≠ F := ne_of_none gT nF
        have e34 : ExtN G2 (upd G4 F (.lst [.ref T])) := e3.trans (ExtN.of (e4.trans (Same.new nF)))
        have t5 : Tabs TT (upd G4 F (.lst [.ref T])) := Tabs.ext t3 (e4.trans (Same.new nF))
        have gT5 : (upd G4 F (.lst [.ref T])) T = some (.tup [.str "land", .non]) := Same.new nF _ _ gT
        have gF5 : (upd G4 F (.lst [.ref T])) F = some (.lst [.ref T]) := upd_same
        have nF2 : ∀ c o, (∀ ps, o ≠ .tbl ps) → G2 c = some o → c ≠ F := fun c o nt ec => ne_of_none (e4 _ _ (e3 _ _ ec nt)) nF
        generalize upd G4 F (.lst [.ref T]) = G5 at e34 t5 gT5 gF5 ⊢
        refine ⟨_, rfl, .inl ⟨rfl, _, SqL.of gF5⟩, t5, fun H6 e6 t6 => ⟨fx, sp, rfl, hx2, _, rfl, _, rfl, ?_⟩⟩
        have e26 := e34.trans e6
        obtain ⟨r3, bk3, no3⟩ := (ob2.ext e26).bk
        refine As.book (L.is (la2.ext e26)) (la2.ext e26) g bk3 no3 (met_bad .b fun G7 T2 e7 nT2 gT2 => ?_)
        have gF7 := e7 _ _ (e6 _ _ gF5 (by intro ps z; cases z))
        have gT7 := e7 _ _ (e6 _ _ gT5 (by intro ps z; cases z))
        have T2F : T2 ≠ F := ne_of gT2 gF7 (by intro z; cases z)
        refine ⟨F, [.ref T], .ref T2, rfl, rfl, gF7, by show 1 < sizeLine; decide, ?_⟩
        have x8 : ExtN G2 (upd G7 F (.lst [.ref T, .ref T2])) := fun c o ec nt => by
          rw [upd_ne (nF2 c o nt ec)]
          exact e7 _ _ (e26 _ _ ec nt)
        have t8 : Tabs TT (upd G7 F (.lst [.ref T, .ref T2])) := Tabs.put (Tabs.ext t6 e7) gF7 (by intro ps z; cases z) (by intro φ z; cases z)
        have gF8 : (upd G7 F (.lst [.ref T, .ref T2])) F = some (.lst [.ref T, .ref T2]) := upd_same
        have gT8 : (upd G7 F (.lst [.ref T, .ref T2])) T = some (.tup [.str "land", .non]) := by rw [upd_ne TF]; exact gT7
        have gU8 : (upd G7 F (.lst [.ref T, .ref T2])) T2 = some (.tup [.str "book", odd]) := by rw [upd_ne T2F]; exact gT2
        show tSeq _ _ _ _ (upd G7 F (.lst [.ref T, .ref T2]))
        generalize upd G7 F (.lst [.ref T, .ref T2]) = G8 at x8 t8 gF8 gT8 gU8 ⊢
        refine ⟨_, rfl, by show 2 ≤ sizeLine; decide, fun W1 nW1 => ⟨_, rfl, by show 2 ≤ sizeLine; decide, fun W2 nW2 => ⟨by show 2 ≤ sizeLine; decide, fun W3 nW3 => ?_⟩⟩⟩
        have k1 := Same.new (u := .tup [.str "land", .non]) nW1
        have k2 := Same.new (u := .tup [.str "book", odd]) nW2
        have k3 := Same.new (u := .lst [.ref W1, .ref W2]) nW3
        have k13 := (k1.trans k2).trans k3
        have so : Self K C 6 (upd (upd (upd G8 W1 (.tup [.str "land", .non])) W2 (.tup [.str "book", odd])) W3 (.lst [.ref W1, .ref W2])) odd := ((ob2.ext x8).ext (ExtN.of k13)).sm
        refine ⟨_, _, rfl, SameW.seq (tp := false) (xs := [.ref T, .ref T2]) (ys := [.ref W1, .ref W2]) (k13 _ _ gF8) upd_same (by simp) (.cons (SameW.seq (tp := true) (xs := [.str "land", .non]) (ys := [.str "land", .non]) (k13 _ _ gT8) (k3 _ _ (k2 _ _ upd_same)) (by simp) (.cons (SameW.str (by decide)) (.cons SameW.non .nil)))
          (.cons (SameW.seq (tp := true) (xs := [.str "book", odd]) (ys := [.str "book", odd]) (k13 _ _ gU8) (k3 _ _ upd_same) (by simp) (.cons (SameW.str (by decide)) (.cons so .nil))) .nil)), fun G9 e9 => ⟨_, rfl, iteF ?_⟩⟩
        exact ⟨⟨_, _, rfl⟩, x2.trans (x8.trans (ExtN.of (k13.trans e9))), Tabs.ext t8 (k13.trans e9)⟩
      · obtain ⟨⟨o5, o6, rfl⟩, x2, t2⟩ := z
        exact ⟨⟨_, _, _, rfl⟩, xw.trans x2, t2⟩
    · obtain ⟨⟨o5, o6, o8, rfl⟩, xG, tG⟩ := z
      have XG := XF.trans xG
      clear allB o3 xG tF EF XF
      have landA := fun F (e : ExtN G F) => landA F (XG.trans e)
      have M4 : MkL G (OddA K C ns) [some (.ref p), some (.ref l), some (.ref a), some (.ref b), some (.ref od), o5, o6, none, o8, some (.str x), some (.str y)] (tCons (tC .non) (tCons (tC (.int 5)) (tCons (tC (.str "none")) (tCons (tC (.str "")) (tCons (tLst (tCons (tVar 9) tNil)) (tCons (tTup (tCons (tVar 9) tNil)) (tCons tDNewK (tCons (tC (.bl true)) (tCons (tVar 1) tNil))))))))) 9 := (mkl_cons (mka_flat (fun _ => .non) rfl (fun _ => self_non)) (mkl_cons (mka_flat (fun _ => .int 5) rfl (fun _ => self_int 5)) (mkl_cons (mka_flat (fun _ => .str (by decide)) (decide_eq_false out.none) (fun _ => self_str (by decide))) (mkl_cons (mka_flat (fun _ => .str (by decide)) (decide_eq_false out.empty) (fun _ => self_str (by decide))) (mkl_cons (mka_lst rfl lx) (mkl_cons (mka_tup rfl lx) (mkl_cons (mka_dct) (mkl_cons (mka_flat (fun _ => .bl true) rfl (fun _ => self_bl true)) (mkl_cons (fun H Q eH q => ⟨_, rfl, q _ _ (Same.refl _) fun F eF _ => landA F eF⟩) mkl_nil)))))))))
      dsimp only
      show tSeq _ _ _ _ _
      show tFor _ _ _ _ _ _
      show iList _ _ _ _ _
      show tLst _ _ _ _
      show tCons _ _ _ _ _
      refine M4 G _ (Same.refl _) fun vs4 G4 e4 l4 b4 => ⟨by rw [l4]; decide, fun wl nwl => ⟨wl, rfl, ⟨_, SqL.of upd_same⟩, ?_⟩⟩
      clear M4
      have EG : Same G (upd G4 wl (.lst vs4)) := e4.trans (Same.new nwl)
      have gwl : (upd G4 wl (.lst vs4)) wl = some (.lst vs4) := upd_same
      have allA : ∀ v ∈ vs4, OddA K C ns (upd G4 wl (.lst vs4)) v := b4 _ (ExtN.of EG) fun c o nt hc ec => Same.new nwl _ _ ec
      have tA := Tabs.ext tG EG
      have XA := XG.trans (ExtN.of EG)
      generalize upd G4 wl (.lst vs4) = Ha at gwl allA tA XA
      clear b4 landA landB EG e4 nwl l4 XG tG
      refine for_it (walk_list (xs := vs4)) (fun i σ G => (∃ o5 o6 o8 : Option V, σ = [some (.ref p), some (.ref l), some (.ref a), some (.ref b), some (.ref od), o5, o6, none, o8, some (.str x), some (.str y)]) ∧ ExtN Ha G ∧ Tabs TT G) ⟨⟨_, _, _, rfl⟩, ExtN.refl _, tA⟩ (fun i σ G _ z => SqL.of (z.2.1 _ _ gwl (by intro ps z; cases z))) (fun i odd σ G G' hi z yy => ?_) (fun σ G z => ?_)
      · obtain ⟨⟨o5, o6, o8, rfl⟩, xG, tG⟩ := z
        obtain ⟨rfl, hx⟩ := yy
        have ob : OddA K C ns G' odd := (allA odd (List.mem_of_getElem? hx)).ext xG
        dsimp only [gName]
        refine ⟨by show 2 ≤ sizeLine; decide, fun wa nwa => ⟨wa, rfl, ⟨_, SqT.of upd_same⟩, ?_⟩⟩
        have ew : Same G' (upd G' wa (.tup [V.ref fF, V.ref fG])) := Same.new nwa
        have gw : (upd G' wa (.tup [V.ref fF, V.ref fG])) wa = some (.tup [V.ref fF, V.ref fG]) := upd_same
        have xw := xG.trans (ExtN.of ew)
        have tw := Tabs.ext tG ew
        have ob := ob.ext (ExtN.of ew)
        generalize upd G' wa (.tup [V.ref fF, V.ref fG]) = Gw at gw xw tw ob
        refine for_it (walk_tup (xs := [V.ref fF, V.ref fG])) (fun j σ G => (∃ o5 o6 : Option V, σ = [some (.ref p), some (.ref l), some (.ref a), some (.ref b), some (.ref od), o5, o6, none, some odd, some (.str x), some (.str y)]) ∧ ExtN Gw G ∧ Tabs TT G) ⟨⟨_, _, rfl⟩, ExtN.refl _, tw⟩ (fun j σ G _ z => SqT.of (z.2.1 _ _ gw (by intro ps z; cases z))) (fun j v σ G G2 hj z yy => ?_) (fun σ G z => ?_)
        · obtain ⟨⟨o5, o6, rfl⟩, x2, t2⟩ := z
          obtain ⟨rfl, hv⟩ := yy
          obtain ⟨fx, sp, rfl, hx2, As⟩ := asks j v hv
          have ob2 := ob.ext x2
          have X2 := (XA.trans xw).trans x2
          have la2 : LandAt G2 C l (ns.map V.str) m := la.ext X2
          have bw2 := bw.ext X2
          dsimp only [gName]
          refine ⟨t2, fun H3 e3 t3 => ⟨fx, sp, rfl, hx2, _, rfl, _, rfl, _, rfl, ?_⟩⟩
          obtain ⟨ka, ana⟩ := (ob2.ext e3).an
          refine As.adr (L.is (la2.ext e3)) (la2.ext e3) g (bw2.ext e3) byes ana ob2.no (met_bad .n fun G4 T e4 nT gT => ⟨by show 1 ≤ sizeLine; decide, fun F nF => ?_⟩)
          have TF : T ≠ F := ne_of_none gT nF
          have e34 : ExtN G2 (upd G4 F (.lst [.ref T])) := e3.trans (ExtN.of (e4.trans (Same.new nF)))
          have t5 : Tabs TT (upd G4 F (.lst [.ref T])) := Tabs.ext t3 (e4.trans (Same.new nF))
          have gT5 : (upd G4 F (.lst [.ref T])) T = some (.tup [.str "address", odd]) := Same.new nF _ _ gT
          have gF5 : (upd G4 F (.lst [.ref T])) F = some (.lst [.ref T]) := upd_same
          have nF2 : ∀ c o, (∀ ps, o ≠ .tbl ps) → G2 c = some o → c ≠ F := fun c o nt ec => ne_of_none (e4 _ _ (e3 _ _ ec nt)) nF
          generalize upd G4 F (.lst [.ref T]) = G5 at e34 t5 gT5 gF5 ⊢
          refine ⟨_, rfl, .inl ⟨rfl, _, SqL.of gF5⟩, t5, fun H6 e6 t6 => ⟨fx, sp, rfl, hx2, _, rfl, _, rfl, by show 2 ≤ sizeLine; decide, fun wl2 nwl2 => ⟨_, rfl, _, rfl, ?_⟩⟩⟩
          have gwl2 : (upd H6 wl2 (.lst [.str x, .str y])) wl2 = some (.lst [.str x, .str y]) := upd_same
          have e6b : Same H6 (upd H6 wl2 (.lst [.str x, .str y])) := Same.new nwl2
          refine As.land (L.lst gwl2) (met_bad .l fun G7 T2 e7 nT2 gT2 => ?_)
          have e67 : Same H6 G7 := e6b.trans e7
          have gwl7 := e7 _ _ gwl2
          have gF7 := e67 _ _ (e6 _ _ gF5 (by intro ps z; cases z))
          have gT7 := e67 _ _ (e6 _ _ gT5 (by intro ps z; cases z))
          have wF : wl2 ≠ F := (ne_of_none (e6 _ _ gF5 (by intro ps z; cases z)) nwl2).symm
          have T2F : T2 ≠ F := ne_of gT2 gF7 (by intro z; cases z)
          refine ⟨F, [.ref T], .ref T2, rfl, rfl, gF7, by show 1 < sizeLine; decide, ?_⟩
          have x8 : ExtN G2 (upd G7 F (.lst [.ref T, .ref T2])) := fun c o ec nt => by
            rw [upd_ne (nF2 c o nt ec)]
            exact e67 _ _ (e6 _ _ (e34 _ _ ec nt) nt)
          have t8 : Tabs TT (upd G7 F (.lst [.ref T, .ref T2])) := Tabs.put (Tabs.ext t6 e67) gF7 (by intro ps z; cases z) (by intro φ z; cases z)
          have gF8 : (upd G7 F (.lst [.ref T, .ref T2])) F = some (.lst [.ref T, .ref T2]) := upd_same
          have gT8 : (upd G7 F (.lst [.ref T, .ref T2])) T = some (.tup [.str "address", odd]) := by rw [upd_ne TF]; exact gT7
          have gU8 : (upd G7 F (.lst [.ref T, .ref T2])) T2 = some (.tup [.str "land", .ref wl2]) := by rw [upd_ne T2F]; exact gT2
          have gw8 : (upd G7 F (.lst [.ref T, .ref T2])) wl2 = some (.lst [.str x, .str y]) := by rw [upd_ne wF]; exact gwl7
          show tSeq _ _ _ _ (upd G7 F (.lst [.ref T, .ref T2]))
          generalize upd G7 F (.lst [.ref T, .ref T2]) = G8 at x8 t8 gF8 gT8 gU8 gw8 ⊢
          refine ⟨_, rfl, _, rfl, by show 2 ≤ sizeLine; decide, fun W1 nW1 => ⟨_, rfl, _, rfl, by show 2 ≤ sizeLine; decide, fun W0 nW0 => ⟨by show 2 ≤ sizeLine; decide, fun W2 nW2 => ⟨by show 2 ≤ sizeLine; decide, fun W3 nW3 => ?_⟩⟩⟩⟩
          have k1 := Same.new (u := .tup [.str "address", odd]) nW1
          have k0 := Same.new (u := .lst [.str x, .str y]) nW0
          have k2 := Same.new (u := .tup [.str "land", .ref W0]) nW2
          have k3 := Same.new (u := .lst [.ref W1, .ref W2]) nW3
          have k13 := ((k1.trans k0).trans k2).trans k3
          have so : Self K C 6 (upd (upd (upd (upd G8 W1 (.tup [.str "address", odd])) W0 (.lst [.str x, .str y])) W2 (.tup [.str "land", .ref W0])) W3 (.lst [.ref W1, .ref W2])) odd := ((ob2.ext x8).ext (ExtN.of k13)).sm
          refine ⟨_, _, rfl, SameW.seq (tp := false) (xs := [.ref T, .ref T2]) (ys := [.ref W1, .ref W2]) (k13 _ _ gF8) upd_same (by simp) (.cons (SameW.seq (tp := true) (xs := [.str "address", odd]) (ys := [.str "address", odd]) (k13 _ _ gT8) (k3 _ _ (k2 _ _ (k0 _ _ upd_same))) (by simp) (.cons (SameW.str (by decide)) (.cons so .nil)))
            (.cons (SameW.seq (tp := true) (xs := [.str "land", .ref wl2]) (ys := [.str "land", .ref W0]) (k13 _ _ gU8) (k3 _ _ upd_same) (by simp) (.cons (SameW.str (by decide)) (.cons (SameW.seq (tp := false) (xs := [.str x, .str y]) (ys := [.str x, .str y]) (k13 _ _ gw8) (k3 _ _ (k2 _ _ upd_same)) (by simp) (.cons (SameW.str lx) (.cons (SameW.str ly) .nil))) .nil))) .nil)), fun G9 e9 => ⟨_, rfl, iteF ?_⟩⟩
          exact ⟨⟨_, _, rfl⟩, x2.trans (x8.trans (ExtN.of (k13.trans e9))), Tabs.ext t8 (k13.trans e9)⟩
        · obtain ⟨⟨o5, o6, rfl⟩, x2, t2⟩ := z
          exact ⟨⟨_, _, _, rfl⟩, xw.trans x2, t2⟩
      · obtain ⟨⟨o5, o6, o8, rfl⟩, xG, tG⟩ := z
        have X := XA.trans xG
        clear allA gwl tA xG
        intro hp nhp
        refine ⟨Nat.zero_le _, fun t nt => ?_⟩
        have thp : t ≠ hp := (ne_of_none (o := .dK []) upd_same nt).symm
        have et := Same.new (u := .tup []) nt
        refine ⟨et hp _ upd_same, [(.inr "late!", .ref t)], rfl, by show 1 ≤ 15; decide, ?_⟩
        have eK : Same G (upd (upd (upd G hp (.dK [])) t (.tup [])) hp (.dK (mergeK [] [((.inr "late!" : Key), V.ref t)]))) := disp_fin nhp et
        have ghp : (upd (upd (upd G hp (.dK [])) t (.tup [])) hp (.dK (mergeK [] [((.inr "late!" : Key), V.ref t)]))) hp = some (.dK [((.inr "late!" : Key), V.ref t)]) := upd_same
        have gt : (upd (upd (upd G hp (.dK [])) t (.tup [])) hp (.dK (mergeK [] [((.inr "late!" : Key), V.ref t)]))) t = some (.tup []) := by rw [upd_ne thp, upd_same]
        generalize upd (upd (upd G hp (.dK [])) t (.tup [])) hp (.dK (mergeK [] [((.inr "late!" : Key), V.ref t)])) = K1 at eK ghp gt
        have tK := Tabs.ext tG eK
        have nhpX : ∀ c o, (∀ ps, o ≠ .tbl ps) → G c = some o → c ≠ hp := fun c o _ ec => ne_of_none ec nhp
        refine ⟨tK, fun H3 e3 t3 => ⟨_, rfl, _, rfl, _, rfl, ?_⟩⟩
        have X3 := (X.trans (ExtN.of eK)).trans e3
        have gh3 := e3 _ _ ghp (by intro ps z; cases z)
        have gt3 := e3 _ _ gt (by intro ps z; cases z)
        have la3 : LandAt H3 C l (ns.map V.str) m := la.ext X3
        have lateS : ("late!" : Str).length ≤ 100 := by decide
        refine along_asks.book (L.is la3) la3 g (r := some [(.inr "late!", some [])]) ⟨hp, _, rfl, gh3, fun z mz => by rw [List.mem_singleton.mp mz]; exact lateS, by simp, .cons ⟨rfl, ⟨t, true, rfl, gt3, (fun z mz => by cases mz), by simp⟩⟩ .nil⟩ (keys_bad (by show (decide (("late!" : Str) ∈ ns) && true) = false; rw [decide_eq_false out.late] <;> rfl)) (met_bad .b fun G4 T e4 nT gT => ?_)
        have gh4 := e4 _ _ gh3
        have gt4 := e4 _ _ gt3
        refine ⟨_, rfl, _, _, rfl, DPut.k (k := Sum.inr "more") gh4 (by show 1 < sizeLine; decide), ?_⟩
        have pk : putK [((.inr "late!" : Key), V.ref t)] (.inr "more") (V.int 1) = [(.inr "late!", .ref t), (.inr "more", .int 1)] := putK_new (kvs := [((.inr "late!" : Key), V.ref t)]) (V.int 1) (valV_neg (r := []) (by show ¬ ((Sum.inr ("late!" : Str) : Key) = Sum.inr ("more" : Str)); decide))
        rw [pk]
        have Th : T ≠ hp := ne_of gT gh4 (by intro z; cases z)
        have th : t ≠ hp := ne_of gt4 gh4 (by intro z; cases z)
        have gh5 : (upd G4 hp (.dK [((.inr "late!" : Key), V.ref t), (.inr "more", .int 1)])) hp = some (.dK [((.inr "late!" : Key), V.ref t), (.inr "more", .int 1)]) := upd_same
        have gT5 : (upd G4 hp (.dK [((.inr "late!" : Key), V.ref t), (.inr "more", .int 1)])) T = some (.tup [.str "book", .ref hp]) := by rw [upd_ne Th]; exact gT
        have gt5 : (upd G4 hp (.dK [((.inr "late!" : Key), V.ref t), (.inr "more", .int 1)])) t = some (.tup []) := by rw [upd_ne th]; exact gt4
        have x5 : ExtN G (upd G4 hp (.dK [((.inr "late!" : Key), V.ref t), (.inr "more", .int 1)])) := fun c o ec nt' => by
          rw [upd_ne (nhpX c o nt' ec)]
          exact e4 _ _ (e3 _ _ (eK _ _ ec) nt')
        have t5 : Tabs TT (upd G4 hp (.dK [((.inr "late!" : Key), V.ref t), (.inr "more", .int 1)])) := Tabs.put (Tabs.ext t3 e4) gh4 (by intro ps z; cases z) (by intro φ z; cases z)
        dsimp only
        generalize upd G4 hp (.dK [((.inr "late!" : Key), V.ref t), (.inr "more", .int 1)]) = G5 at gh5 gT5 gt5 x5 t5 ⊢
        refine ⟨_, rfl, _, rfl, by show 2 ≤ sizeLine; decide, fun W1 nW1 => ?_⟩
        have k1 := Same.new (u := .tup [.str "book", .ref hp]) nW1
        have sh : Self K C 6 (upd G5 W1 (.tup [.str "book", .ref hp])) (.ref hp) := self_dct (k1 _ _ gh5) (by simp) fun z mz => by
          have e : z = (.inr "late!", .ref t) ∨ z = (.inr "more", .int 1) := by simpa using mz
          rcases e with rfl | rfl
          · exact ⟨self_str lateS, self_seq (tp := true) (xs := []) (k1 _ _ gt5) (by simp) fun z mz => by cases mz⟩
          · exact ⟨self_str (by decide), self_int 1⟩
        refine ⟨_, _, rfl, SameW.seq (tp := true) (xs := [.str "book", .ref hp]) (ys := [.str "book", .ref hp]) (k1 _ _ gT5) upd_same (by simp) (.cons (SameW.str (by decide)) (.cons (SameV.up 6 sh) .nil)), fun G9 e9 => ?_⟩
        exact q _ (X.trans (x5.trans (ExtN.of (k1.trans e9)))) (Tabs.ext t5 (k1.trans e9))
end
end OB
namespace OB
open PySem PySem.Spec PyProof.Rows L2 LamX
/-! ### how rings and books are shown -/
def topD (tp : Bool) (ds : List PyData) : PyData := match tp with
  | true => .tuple ds
  | false => .list ds
def txtD (ss : List Str) : List PyData := ss.map PyData.str
abbrev Ent : Type := Str × Bool × List Str
def entD (e : Ent) : PyData × PyData := (.str e.1, topD e.2.1 (txtD e.2.2))
/-- an entry as it is passed -/
def EntX (H : Hp) (p : Key × V) (e : Ent) : Prop := p.1 = Sum.inr e.1 ∧ ∃ t, p.2 = .ref t ∧ H t = some (mkX e.2.1 (e.2.2.map V.str))
inductive ShD (H : Hp) : V → PyData → Prop where
  | non : ShD H .non .none
  | seq {tp : Bool} {a : Addr} {ss : List Str} : H a = some (mkX tp (ss.map V.str)) → ShD H (.ref a) (topD tp (txtD ss))
  | dct {a : Addr} {kvs : List (Key × V)} {es : List Ent} : H a = some (.dK kvs) → Paired (EntX H) kvs es → ShD H (.ref a) (.dict (es.map entD))
structure SmallD (d : PyData) : Prop where
  sh : d.showable = true
  dp : d.depth ≤ 2
  sz : d.shown.length ≤ 50000
def SmallS (ss : List Str) : Prop := ss.length ≤ 10 ∧ ∀ s ∈ ss, s ∈ sixN
theorem six_small : ∀ s ∈ sixN, (PyData.str s).leavesShort 8 = true ∧ (PyData.str s).bulk ≤ 2 := by decide +kernel
theorem txt_show : ∀ ss : List Str, PyData.showableAll (txtD ss) = true
  | [] => rfl
  | s :: ss => by
    show (true && PyData.showableAll (txtD ss)) = true
    rw [txt_show ss] <;> rfl
theorem txt_short : ∀ ss : List Str, (∀ s ∈ ss, s ∈ sixN) → PyData.leavesShortAll 8 (txtD ss) = true ∧ PyData.bulkAll (txtD ss) ≤ 3 * ss.length
  | [], _ => ⟨rfl, Nat.le_refl _⟩
  | s :: ss, h => by
    obtain ⟨h1, h2⟩ := six_small s (h s (List.mem_cons_self ..))
    obtain ⟨h3, h4⟩ := txt_short ss fun x m => h x (List.mem_cons_of_mem _ m)
    refine ⟨?_, ?_⟩
    · show ((PyData.str s).leavesShort 8 && PyData.leavesShortAll 8 (txtD ss)) = true
      rw [h1, h3] <;> rfl
    · show (PyData.str s).bulk + 1 + PyData.bulkAll (txtD ss) ≤ 3 * (ss.length + 1)
      omega
theorem top_small {tp : Bool} {ss : List Str} (h : SmallS ss) : (topD tp (txtD ss)).showable = true ∧ (topD tp (txtD ss)).depth ≤ 1 ∧ (topD tp (txtD ss)).leavesShort 8 = true ∧ (topD tp (txtD ss)).bulk ≤ 30 := by
  obtain ⟨h1, h2⟩ := h
  obtain ⟨a1, a2⟩ := txt_short ss h2
  have a3 : PyData.depthAll (txtD ss) = 0 := depth_txt ss
  cases tp with
  | true => exact ⟨txt_show ss, by show PyData.depthAll (txtD ss) + 1 ≤ 1; omega, a1, by show PyData.bulkAll (txtD ss) ≤ 30; omega⟩
  | false => exact ⟨txt_show ss, by show PyData.depthAll (txtD ss) + 1 ≤ 1; omega, a1, by show PyData.bulkAll (txtD ss) ≤ 30; omega⟩
theorem small_seq {tp : Bool} {ss : List Str} (h : SmallS ss) : SmallD (topD tp (txtD ss)) := by
  obtain ⟨h1, h2, h3, h4⟩ := top_small (tp := tp) h
  have := PyData.shown_le_bulk 8 (by decide) _ h3
  exact ⟨h1, by omega, by omega⟩
theorem ents_small : ∀ es : List Ent, (∀ e ∈ es, e.1 ∈ sixN ∧ SmallS e.2.2) → PyData.showableKv (es.map entD) = true ∧ PyData.depthKv (es.map entD) ≤ 1 ∧ PyData.leavesShortKv 8 (es.map entD) = true ∧ PyData.bulkKv (es.map entD) ≤ 40 * es.length
  | [], _ => ⟨rfl, Nat.zero_le _, rfl, Nat.le_refl _⟩
  | e :: es, h => by
    obtain ⟨m1, m2⟩ := h e (List.mem_cons_self ..)
    obtain ⟨k1, k2⟩ := six_small e.1 m1
    obtain ⟨t1, t2, t3, t4⟩ := top_small (tp := e.2.1) m2
    obtain ⟨r1, r2, r3, r4⟩ := ents_small es fun x m => h x (List.mem_cons_of_mem _ m)
    refine ⟨?_, ?_, ?_, ?_⟩
    · show (true && (topD e.2.1 (txtD e.2.2)).showable && PyData.showableKv (es.map entD)) = true
      rw [t1, r1] <;> rfl
    · show max (max 0 (topD e.2.1 (txtD e.2.2)).depth) (PyData.depthKv (es.map entD)) ≤ 1
      omega
    · show ((PyData.str e.1).leavesShort 8 && (topD e.2.1 (txtD e.2.2)).leavesShort 8 && PyData.leavesShortKv 8 (es.map entD)) = true
      rw [k1, t3, r3] <;> rfl
    · show (PyData.str e.1).bulk + (topD e.2.1 (txtD e.2.2)).bulk + 2 + PyData.bulkKv (es.map entD) ≤ 40 * (es.length + 1)
      omega
theorem small_dct {es : List Ent} (h : ∀ e ∈ es, e.1 ∈ sixN ∧ SmallS e.2.2) (l : es.length ≤ 10) : SmallD (.dict (es.map entD)) := by
  obtain ⟨r1, r2, r3, r4⟩ := ents_small es h
  have sz : (PyData.dict (es.map entD)).shown.length ≤ (8 + 2) * PyData.bulkKv (es.map entD) + 8 := PyData.shown_le_bulk 8 (by decide) (.dict (es.map entD)) r3
  exact ⟨r1, by show PyData.depthKv (es.map entD) + 1 ≤ 2; omega, by omega⟩
section
variable {P : Program} {w : World} {H : Hp} {h : Heap}
theorem txt_reads : ∀ (ss : List Str) (us : List Value), Vals (ss.map V.str) us → ReadsAll h us (txtD ss) []
  | [], _, r => by
    cases r
    exact .nil
  | s :: ss, _, r => by
    cases r with
    | cons r1 r2 =>
      obtain ⟨t, rfl⟩ := r1
      exact .cons (as := []) (bs := []) (.str s t) (txt_reads ss _ r2)
theorem seq_reads (ok : HOk P w H h) (ns : H sysModules = none) {tp : Bool} {a : Addr} {ss : List Str} (e : H a = some (mkX tp (ss.map V.str))) : ∃ as, Reads h (.ref a) (topD tp (txtD ss)) as ∧ sysModules ∉ as := by
  cases tp with
  | true =>
    obtain ⟨_, its, rv, o, ho, hc, n, hd⟩ := (show ObjOk P w H h a (.tup (ss.map V.str)) from ok a _ e)
    exact ⟨[], .tuple (vs := its.toArray) ho hc hd (txt_reads ss its rv), by simp⟩
  | false =>
    obtain ⟨_, its, n, rv, ho⟩ := (show ObjOk P w H h a (.lst (ss.map V.str)) from ok a _ e)
    refine ⟨[a], .list (vs := its.toArray) ho rfl rfl (txt_reads ss its rv), fun m => ?_⟩
    have e : H a = some (.lst (ss.map V.str)) := e
    rw [List.mem_singleton.mp m, e] at ns
    cases ns
theorem ent_reads (ok : HOk P w H h) (ns : H sysModules = none) : ∀ {kvs : List (Key × V)} {es : List Ent} {vs : List (Key × Value)} {ds : List DictEntry}, Paired (EntX H) kvs es → KV kvs vs → Pairs (mixKind P w) ds vs →
    ∃ as, ReadsAll h (ds.map (·.key)) ((es.map entD).map (·.1)) [] ∧ ReadsAll h (ds.map (·.val)) ((es.map entD).map (·.2)) as ∧ sysModules ∉ as
  | _, _, _, _, .nil, kv, pr => by
    cases kv
    cases pr
    exact ⟨[], .nil, .nil, by simp⟩
  | _, _, _, _, .cons (b := e) ⟨e1, t, e2, e3⟩ r, kv, pr => by
    cases kv with
    | cons k1 k2 =>
      cases pr with
      | cons p1 p2 p3 =>
        obtain ⟨as, a1, a2, a3⟩ := ent_reads ok ns r k2 p3
        obtain ⟨bs, b1, b2⟩ := seq_reads ok ns e3
        rw [← k1.1, e1] at p1
        have rk := relV_key (k := Sum.inr e.1) p1
        obtain ⟨tk, hk⟩ := (show ∃ tk, _ = Value.str e.1 tk from rk)
        have rv := k1.2
        rw [e2] at rv
        refine ⟨bs ++ as, .cons (as := []) (bs := []) (by show Reads h (DictEntry.key _) (.str e.1) []; rw [hk]; exact .str _ _) a1, .cons (by show Reads h (DictEntry.val _) (topD e.2.1 (txtD e.2.2)) bs; rw [p2, show _ = Value.ref t from rv]; exact b1) a2, fun m => ?_⟩
        rcases List.mem_append.mp m with m | m
        · exact b2 m
        · exact a3 m
end
/-- repr of such, where no repr is under way -/
def rShow : List V → Hp → VK → Prop := fun xs H Q => ∃ v d, xs = [v] ∧ ShD H v d ∧ SmallD d ∧ Q (.str d.shown) H
theorem call_show {X : Cx} (hg : X.A.guards = some []) (hu : X.A.units + 64 < cLine) (hs : ∃ o, X.base.get? sysModules = some o) : CallR X (.builtin "repr") rShow := by
  intro pins s σ H xs us Q I r h
  obtain ⟨v, d, rfl, sd, sm, q⟩ := h
  obtain ⟨u, rfl, rx⟩ := vals1 r
  obtain ⟨o, hs⟩ := hs
  have ns : H sysModules = none := (I.bs sysModules o hs).2
  have big : 50000 ≤ sizeLine := by decide
  have dp := sm.dp
  have fin : ∀ {a : Addr} {as : List Addr}, Reads s.heap (.ref a) d as → sysModules ∉ as → wpAny (model X.prog X.w) X.A (call (.builtin "repr") [.ref a]) (fun v s' => EP X pins σ Q v s') X.xe s := fun rd nm =>
    repr_of_reads' rd sm.sh (fun _ => nm) hg (by omega) (fun _ _ e => e) (fun h' u tk k => ⟨.str d.shown, H, I.kept (t' := tk) k, ⟨_, rfl⟩, q⟩) (Nat.le_trans sm.sz big)
  cases sd with
  | non =>
    cases rx
    exact PySem.P.repr_of_none ⟨.str (PyData.none).shown, H, I.tok _, ⟨_, rfl⟩, q⟩
  | seq e =>
    cases rx
    obtain ⟨as, q1, n1⟩ := seq_reads I.hok ns e
    exact fin q1 n1
  | @dct a kvs es e pr =>
    cases rx
    obtain ⟨_, ns', vs, kv, o2, ds, ep, ho, hx, hd, hk, hp, hn⟩ := (show ObjOk X.prog X.w H s.heap a (.dK kvs) from I.hok a _ e)
    obtain ⟨as, a1, a2, a3⟩ := ent_reads (h := s.heap) I.hok ns pr kv hp
    refine fin (.dict ho hx.1 hd a1 a2) fun m => ?_
    rcases List.mem_cons.mp m with z | z
    · rw [z, e] at ns
      cases ns
    · exact a3 (by simpa using z)
end OB
namespace BK
variable {α : Type} [DecidableEq α] {sc sd : α → List α}
/-- who is met are all that one comes by -/
theorem comeI_all {a : α} {ns : List α} (hn : ∀ x, (sc x).Nodup) (hs : ∀ x, ∀ y ∈ sc x, y ∈ ns) : ∀ (n : Nat) (met : List α) (i : Nat), MetI sc a met i → (∀ x ∈ met, x ∈ ns) → ns.length ≤ n + i → MetA sc a (comeI sc n met i) ∧ ∀ x ∈ comeI sc n met i, x ∈ ns
  | 0, met, i, h, s, l => by
    have lm := sub_len h.nd s
    have e : i = met.length := by have := h.le; omega
    subst e
    exact ⟨h.all, s⟩
  | n + 1, met, i, h, s, l => by
    by_cases z : i < met.length
    · have hx : met[i]? = some met[i] := List.getElem?_eq_getElem z
      rw [comeI_step hx]
      refine comeI_all hn hs n _ _ (h.next hx (hn _)) (fun y m => ?_) (by omega)
      rcases List.mem_append.mp m with m | m
      · exact s y m
      · exact hs _ y (List.mem_filter.mp m).1
    · have e : i = met.length := by have := h.le; omega
      subst e
      rw [comeI_end]
      exact ⟨h.all, s⟩
theorem Ring.congr {rs : List α} (e : ∀ x y, y ∈ sc x ↔ y ∈ sd x) (h : Ring sc rs) : Ring sd rs := ⟨h.nd, h.ne, fun i x y h1 h2 => (e x y).mp (h.next i x y h1 h2), fun x y h1 h2 => (e x y).mp (h.back x y h1 h2)⟩
end BK
namespace OB
open PySem PySem.Spec PyProof.Rows L2 LamX
/-! ### the program's answers beside the law's -/
/-- the book as the program tells it -/
def scP (ns : List Str) (bs : List (Str × List Str)) (x : Str) : Option (List Str) := (scL bs x).map (ordL ns)
theorem scP_mem {ns : List Str} {bs : List (Str × List Str)} (h : BookL ns bs) (x y : Str) : y ∈ scF (scP ns bs) x ↔ y ∈ scF (scL bs) x := by
  unfold scF scP
  cases e : scL bs x with
  | none => exact Iff.rfl
  | some es =>
    have g := h.good _ (scL_mem e)
    show y ∈ ordL ns es ↔ y ∈ es
    unfold ordL
    rw [List.mem_filter, decide_eq_true_iff]
    exact ⟨fun z => z.2, fun z => ⟨g.2.1 y z, z⟩⟩
theorem scP_in {ns : List Str} {bs : List (Str × List Str)} (x : Str) : inB (scP ns bs) x = inB (scL bs) x := by
  unfold inB scP
  cases scL bs x <;> rfl
theorem met_of {ns : List Str} {sc : Str → Option (List Str)} {ad : Str} (b : BookN ns sc) (m : ad ∈ ns) : BK.MetA (scF sc) ad (metF ns sc ad) ∧ ∀ x ∈ metF ns sc ad, x ∈ ns :=
  BK.comeI_all b.nd b.sub ns.length [ad] 0 BK.MetI.start (fun x mx => by rw [List.mem_singleton.mp mx]; exact m) (Nat.le_refl _)
theorem scF_in {sc : Str → Option (List Str)} {x y : Str} (h : y ∈ scF sc x) : inB sc x = true := by
  unfold scF at h
  unfold inB
  cases e : sc x with
  | none =>
    rw [e] at h
    cases h
  | some es => rfl
theorem ring_none {ns : List Str} {sc : Str → Option (List Str)} {ad : Str} (b : BookN ns sc) (m : ad ∈ ns) (h : ringOf sc (metF ns sc ad) = none) : ¬ BK.Round (scF sc) ad :=
  BK.ringL_none (BK.keeps_first (fun x r => ((met_of b m).1.iff x).mpr r) fun x y z => scF_in z) h
theorem ring_some {ns : List Str} {sc : Str → Option (List Str)} {ad : Str} {rs : List Str} (b : BookN ns sc) (m : ad ∈ ns) (h : ringOf sc (metF ns sc ad) = some rs) : BK.Ring (scF sc) rs ∧ (∀ x ∈ rs, x ∈ ns) ∧ (∀ x ∈ rs, BK.Rch (scF sc) ad x) ∧ BK.Round (scF sc) ad := by
  obtain ⟨r, s⟩ := BK.ringL_some h
  obtain ⟨ma, ms⟩ := met_of b m
  have rr : ∀ x ∈ rs, BK.Rch (scF sc) ad x := fun x mx => (ma.iff x).mp (List.mem_filter.mp (s x mx)).1
  have l : 0 < rs.length := List.length_pos_iff.mpr r.ne
  have h0 : rs[0]? = some rs[0] := List.getElem?_eq_getElem l
  exact ⟨r, fun x mx => ms x (List.mem_filter.mp (s x mx)).1, rr, r.round h0 (rr _ (List.mem_of_getElem? h0))⟩
/-- where one arrives, told by both -/
theorem arr_same {ns : List Str} {bs : List (Str × List Str)} {ad : Str} {met : List Str} (h : BookL ns bs) (b : BookN ns (scP ns bs)) (m : ad ∈ ns) (hr : ringOf (scP ns bs) (metF ns (scP ns bs) ad) = none) (ma : BK.MetA (scF (scL bs)) ad met) : arrF ns (scP ns bs) ad = some (ns.filter fun x => decide (x ∈ met) && !inB (scL bs) x) := by
  unfold arrF
  rw [hr]
  refine congrArg some ?_
  unfold ordL
  refine List.filter_congr fun x _ => ?_
  obtain ⟨mp, _⟩ := met_of b m
  have e : x ∈ metF ns (scP ns bs) ad ↔ x ∈ met := by
    rw [mp.iff, ma.iff]
    exact ⟨fun z => z.congr (scP_mem h), fun z => z.congr fun u v => (scP_mem h u v).symm⟩
  rw [Bool.eq_iff_iff, Bool.and_eq_true, decide_eq_true_iff, decide_eq_true_iff, List.mem_filter, scP_in, e]
/-- entries as they are handed -/
structure Handed (bs : List (Str × List Str)) (es : List Ent) : Prop where
  nd : (es.map Prod.fst).Nodup
  all : ∀ x, x ∈ es.map Prod.fst ↔ x ∈ bs.map Prod.fst
  ent : ∀ e ∈ es, scL bs e.1 = some e.2.2
def rsX (es : List Ent) : BkR := es.map fun e => (Sum.inr e.1, some (e.2.2.map V.str))
def rsL (bs : List (Str × List Str)) : BkR := bs.map fun q => (Sum.inr q.1, some (q.2.map V.str))
theorem look_L (bs : List (Str × List Str)) (x : Str) : lookK (rsL bs) (.inr x) = (scL bs x).map fun es => some (es.map V.str) := by
  induction bs with
  | nil => rfl
  | cons q bs ih =>
    unfold lookK rsL scL at *
    by_cases e : q.1 = x
    · simp [List.find?_cons, e]
    · simp only [List.map_cons, List.find?_cons]
      have d : decide (Sum.inr q.1 = (Sum.inr x : Key)) = false := decide_eq_false fun z => e (Sum.inr.inj z)
      have d2 : decide (q.1 = x) = false := decide_eq_false e
      rw [d, d2]
      exact ih
theorem look_X {es : List Ent} {x : Str} (nd : (es.map Prod.fst).Nodup) : lookK (rsX es) (.inr x) = (es.find? fun e => decide (e.1 = x)).map fun e => some (e.2.2.map V.str) := by
  clear nd
  induction es with
  | nil => rfl
  | cons q es ih =>
    unfold lookK rsX at *
    by_cases e : q.1 = x
    · simp [List.find?_cons, e]
    · simp only [List.map_cons, List.find?_cons]
      have d : decide (Sum.inr q.1 = (Sum.inr x : Key)) = false := decide_eq_false fun z => e (Sum.inr.inj z)
      have d2 : decide (q.1 = x) = false := decide_eq_false e
      rw [d, d2]
      exact ih
theorem scL_none {bs : List (Str × List Str)} {x : Str} : scL bs x = none ↔ x ∉ bs.map Prod.fst := by
  unfold scL
  rw [Option.map_eq_none_iff, List.find?_eq_none]
  constructor
  · intro h m
    obtain ⟨q, mq, e⟩ := List.mem_map.mp m
    exact h q mq (decide_eq_true e)
  · intro h q mq z
    exact h (List.mem_map.mpr ⟨q, mq, of_decide_eq_true z⟩)
theorem look_H {bs : List (Str × List Str)} {es : List Ent} (h : Handed bs es) (x : Str) : lookK (rsX es) (.inr x) = (scL bs x).map fun es => some (es.map V.str) := by
  rw [look_X h.nd]
  cases e : es.find? fun e => decide (e.1 = x) with
  | none =>
    have no : x ∉ bs.map Prod.fst := fun m => by
      obtain ⟨q, mq, eq⟩ := List.mem_map.mp ((h.all x).mpr m)
      exact (List.find?_eq_none.mp e) q mq (decide_eq_true eq)
    rw [scL_none.mpr no]
    rfl
  | some q =>
    have e1 := of_decide_eq_true (List.find?_some (p := fun e : Ent => decide (e.1 = x)) e)
    have := h.ent q (List.mem_of_find?_eq_some e)
    rw [e1] at this
    rw [this]
    rfl
theorem unl_good {ns es : List Str} (nd : es.Nodup) (s : ∀ y ∈ es, y ∈ ns) : unlOf ns (some (es.map V.str)) = some es := by
  have m : (es.map V.str).map strOf = es := by
    rw [List.map_map]
    exact List.map_id _
  refine (if_pos ⟨?_, by rw [m]; exact nd⟩).trans (by rw [m])
  rw [List.all_eq_true]
  intro v mv
  obtain ⟨y, my, rfl⟩ := List.mem_map.mp mv
  exact decide_eq_true (s y my)
/-- a book that is told: of any entries that lead as bs -/
theorem book_is {ns : List Str} {bs : List (Str × List Str)} {rs : BkR} (h : BookL ns bs) (l : ∀ x, lookK rs (.inr x) = (scL bs x).map fun es => some (es.map V.str)) (k : keysIn ns rs = true) : bookOf ns (some rs) = some (scP ns bs) := by
  have all : ∀ x ∈ ns, entB ns rs x = true := fun x _ => by
    cases e : scL bs x with
    | none => exact entB_none (by rw [l, e] <;> rfl)
    | some es =>
      have g := h.good _ (scL_mem e)
      have nm : x ∉ es := g.2.2
      rw [entB_some (by rw [l, e] <;> rfl) (unl_good g.1 g.2.1), decide_eq_false nm] <;> rfl
  refine (if_pos ⟨k, all⟩).trans (congrArg some (funext fun x => ?_))
  show (if x ∈ ns then scOf ns rs x else none) = scP ns bs x
  unfold scOf scP
  rw [l]
  cases e : scL bs x with
  | none => exact ite_self _
  | some es =>
    have g := h.good _ (scL_mem e)
    have xn := h.keys _ (scL_mem e)
    rw [if_pos xn, Option.map_some, Option.bind_some, unl_good g.1 g.2.1] <;> rfl
theorem keys_L {ns : List Str} {bs : List (Str × List Str)} (h : BookL ns bs) : keysIn ns (rsL bs) = true := List.all_eq_true.mpr fun p m => by
  obtain ⟨q, mq, rfl⟩ := List.mem_map.mp m
  exact decide_eq_true (h.keys q mq)
theorem keys_X {ns : List Str} {bs : List (Str × List Str)} {es : List Ent} (h : BookL ns bs) (hh : Handed bs es) : keysIn ns (rsX es) = true := List.all_eq_true.mpr fun p m => by
  obtain ⟨e, me, rfl⟩ := List.mem_map.mp m
  obtain ⟨q, mq, eq⟩ := List.mem_map.mp ((hh.all e.1).mp (List.mem_map.mpr ⟨e, me, rfl⟩))
  rw [← eq]
  exact decide_eq_true (h.keys q mq)
theorem book_L {ns : List Str} {bs : List (Str × List Str)} (h : BookL ns bs) : bookOf ns (some (rsL bs)) = some (scP ns bs) := book_is h (look_L bs) (keys_L h)
theorem book_X {ns : List Str} {bs : List (Str × List Str)} {es : List Ent} (h : BookL ns bs) (hh : Handed bs es) : bookOf ns (some (rsX es)) = some (scP ns bs) := book_is h (look_H hh) (keys_X h hh)
/-- a dict merged of pairs with unlike keys -/
theorem merge_new : ∀ (more acc : List (Key × V)), ((acc ++ more).map Prod.fst).Nodup → mergeK acc more = acc ++ more
  | [], acc, _ => by rw [List.append_nil] <;> rfl
  | q :: more, acc, h => by
    have no : valV acc q.1 = none := by
      cases e : valV acc q.1 with
      | none => rfl
      | some v =>
        unfold valV at e
        obtain ⟨z, h1, h2⟩ := Option.map_eq_some_iff.mp e
        have e1 := of_decide_eq_true (List.find?_some (p := fun kv : Key × V => decide (kv.1 = q.1)) h1)
        have m := List.mem_of_find?_eq_some h1
        rw [List.map_append, List.nodup_append] at h
        exact absurd e1 (h.2.2 z.1 (List.mem_map.mpr ⟨z, m, rfl⟩) q.1 (by simp))
    have e : mergeK acc (q :: more) = mergeK (acc ++ [q]) more := by
      show mergeK (putK acc q.1 q.2) more = _
      rw [putK_new _ no]
    rw [e, merge_new more (acc ++ [q]) (by rw [List.append_assoc]; exact h), List.append_assoc]
    rfl
/-- a book handed, as the program reads it -/
theorem bk_L {K : PySem.W.Frag} {H : Hp} {b : Addr} {ns : List Str} {bs : List (Str × List Str)} (h : BkL H b bs) (hb : BookL ns bs) (g : GoodN ns) (l : bs.length < 1000) : BkW K H (.ref b) (some (rsL bs)) := by
  obtain ⟨kvs, h1, pr⟩ := h
  refine ⟨b, kvs, rfl, h1, fun p m => ?_, by rw [pr.length]; exact l, ?_⟩
  · obtain ⟨i, hi⟩ := List.mem_iff_getElem?.mp m
    obtain ⟨q, hq, e1, _⟩ := L2.paired_get pr hi
    rw [e1]
    exact g.short _ (hb.keys q (List.mem_of_getElem? hq))
  · have good := hb.good
    clear h1 l hb
    induction pr with
    | nil => exact .nil
    | @cons p q ps qs h r ih =>
      obtain ⟨e1, t, e2, e3⟩ := h
      have gq := good q (List.mem_cons_self ..)
      refine .cons ⟨e1, ?_⟩ (ih fun u m => good u (List.mem_cons_of_mem _ m))
      rw [e2]
      have len := BK.nodup_sub gq.1 gq.2.1
      have fw := g.few
      exact ⟨t, true, rfl, e3, fun v mv => by
        obtain ⟨y, my, rfl⟩ := List.mem_map.mp mv
        exact ⟨_, .str (g.short y (gq.2.1 y my))⟩, by rw [List.length_map]; omega⟩
theorem bk_X {K : PySem.W.Frag} {H : Hp} {b : Addr} {ns : List Str} {bs : List (Str × List Str)} {kvs : List (Key × V)} {es : List Ent} (h1 : H b = some (.dK kvs)) (pr : Paired (EntX H) kvs es) (hh : Handed bs es) (hb : BookL ns bs) (g : GoodN ns) (l : es.length < 1000) : BkW K H (.ref b) (some (rsX es)) := by
  refine ⟨b, kvs, rfl, h1, fun p m => ?_, by rw [pr.length]; exact l, ?_⟩
  · obtain ⟨i, hi⟩ := List.mem_iff_getElem?.mp m
    obtain ⟨q, hq, e1, _⟩ := L2.paired_get pr hi
    rw [e1]
    obtain ⟨u, mu, eu⟩ := List.mem_map.mp ((hh.all q.1).mp (List.mem_map.mpr ⟨q, List.mem_of_getElem? hq, rfl⟩))
    rw [← eu]
    exact g.short _ (hb.keys u mu)
  · have ent := hh.ent
    clear h1 l hh
    induction pr with
    | nil => exact .nil
    | @cons p q ps qs h r ih =>
      obtain ⟨e1, t, e2, e3⟩ := h
      have gq := hb.good _ (scL_mem (ent q (List.mem_cons_self ..)))
      refine .cons ⟨e1, ?_⟩ (ih fun u m => ent u (List.mem_cons_of_mem _ m))
      rw [e2]
      have len : q.2.2.length ≤ ns.length := BK.nodup_sub gq.1 gq.2.1
      have fw := g.few
      exact ⟨t, q.2.1, rfl, e3, fun v mv => by
        obtain ⟨y, my, rfl⟩ := List.mem_map.mp mv
        exact ⟨_, .str (g.short y (gq.2.1 y my))⟩, by rw [List.length_map]; omega⟩
theorem EntX.same {H H' : Hp} {p : Key × V} {e : Ent} (h : EntX H p e) (s : Same H H') : EntX H' p e := by
  obtain ⟨h1, t, h2, h3⟩ := h
  exact ⟨h1, t, h2, s _ _ h3⟩
end OB
namespace OB
open PySem PySem.Spec PyProof.Rows L2 LamX
/-! ### a call all by keywords -/
theorem vals_rev : ∀ {zs : List V} {ws : List Value}, Vals zs ws → Vals zs.reverse ws.reverse
  | _, _, .nil => .nil
  | _, _, .cons a r => by
    rw [List.reverse_cons, List.reverse_cons]
    exact (vals_rev r).append (.cons a .nil)
theorem kbn_rev {K : PySem.W.Frag} {fd : FuncData} {ps ks : List Str} (h : ∀ ws : List Value, ws.length = ks.length → bindArgs fd ⟨[], ks.zip ws⟩ = pure (ps.zip ws.reverse)) : KBn K fd ps 0 ks (fun _ ws => ws.reverse) (fun _ zs => zs.reverse) :=
  { to := fun s us ws _ l1 l2 => by
      have e : us = [] := List.eq_nil_of_length_eq_zero l1
      subst e
      exact .of_eq (h ws l2)
    rel := fun _ r => vals_rev r }
theorem Fun.rev {K : PySem.W.Frag} {x qual : Str} {st : Stmt} {f : Addr} {fd : FuncData} {ps ks : List Str} (F : Fun K x qual st f fd)
    (h : ∀ (kV doc pm : Value) (an : Option Addr) (cdv ct : Value) (ws : List Value), ws.length = ks.length → bindArgs (PySem.W.fnOf x qual (defArgs st) (defBody st) (defScope st) .none kV doc pm an cdv ct) ⟨[], ks.zip ws⟩ = pure (ps.zip ws.reverse)) : KBn K fd ps 0 ks (fun _ ws => ws.reverse) (fun _ zs => zs.reverse) := by
  obtain ⟨oc, od, kV, doc, pm, an, cdv, ct, osl, rfl, lk, hcd⟩ := F.ex
  exact kbn_rev (h kV doc pm an cdv ct)
section
variable {X : Cx} {CX : CXT} {k : Nat} {f : Addr} {fd : FuncData} {ps ks : List Str} {sp : Sp} {E : XK} {x : Str} {p pos : Pos} {kws : List Keyword} {tk : TA} {g : List Value → List Value → List Value} {gV : List V → List V → List V}
/-- f(k = v, ..) -/
theorem pe_callKO (F : FnOk X.prog X.w X.K X.mg X.base CX k f fd ps sp) (hr : Room k X.A) (hg : Gl X x) (hm : X.mg x = some (.ref f)) (hk : PySem.W.keepIn X.K (.ref f) = true) (hb : KBn X.K fd ps 0 ks g gV) (hx : Passes CX X E)
    (hkw : PK X kws tk) (hall : (backToKw pos (keywordEach kws X.env)).all (·.1.isSome) = true := by rfl) (hks : (backToKw pos (keywordEach kws X.env)).filterMap (·.1) = ks := by rfl)
    (hdb : (x == ("__debug__" : Str)) = false := by decide) (hpl : ((backTo pos (starEach [] X.env)).any (·.1) || (backToKw pos (keywordEach kws X.env)).any (·.1.isNone)) = false := by rfl) :
    PE X (.Call (.Name x p) [] kws pos) (tCallN 0 ks.length sp gV E tNil tk) := by
  refine ⟨fun pins s σ H Q I h => ?_⟩
  refine wpAny_Call_Name_kw (ld_glob I hg hm ?_ hdb)
  refine PySem.W.callWith_KW0 (h₀ := X.base) I.ok.mod.kin hk hall ?_ hpl
  refine thn (hkw.run pos pins s σ H _ I h) fun ws s2 ⟨zs, H2, I2, rz, l1, l2, q2⟩ => ⟨I2.kIn, ?_⟩
  rw [hks]
  exact run_fnN (us := []) (vs := []) F hr hb hx I2 .nil rz l1 l2 q2
end
/-- what is told of a def's body, at one around -/
def BodyAt (X : Cx) (k : Nat) (f : Addr) (x : Str) (st : Stmt) (ps : List Str) (sp : List V → Hp → VK → Prop) : Prop := ∀ (cdv : Value) (s : Shared) (H : Hp) (vs : List V) (Q : VK), Room k (X.A.deeper (envOfC x (defScope st) s.heap.objs.size f cdv)) → sp vs H Q →
  vs.length = ps.length ∧ ∃ N, FnScope N ps (defScope st) ∧ ∃ t, PSs (cxOf CX0 X.prog X.w X.K X.mg X.base N x (defScope st) f cdv X.A X.stack s H (fun _ _ _ => False)) (defBody st) t ∧ t { nx := fun _ H' => Q .non H', rt := Q } (L2.start N vs) H
theorem bind_follow {kV doc pm : Value} {an : Option Addr} {cdv ct : Value} : ∀ ws : List Value, ws.length = 3 → bindArgs (PySem.W.fnOf "follow" "follow" (defArgs sFollow) (defBody sFollow) (defScope sFollow) .none kV doc pm an cdv ct) ⟨[], (["address", "book", "land"] : List Str).zip ws⟩ = pure ((["land", "book", "address"] : List Str).zip ws.reverse)
  | [_, _, _], _ => rfl
theorem bind_ringOf {kV doc pm : Value} {an : Option Addr} {cdv ct : Value} : ∀ ws : List Value, ws.length = 3 → bindArgs (PySem.W.fnOf "ring_of" "ring_of" (defArgs sRingOf) (defBody sRingOf) (defScope sRingOf) .none kV doc pm an cdv ct) ⟨[], (["address", "book", "land"] : List Str).zip ws⟩ = pure ((["land", "book", "address"] : List Str).zip ws.reverse)
  | [_, _, _], _ => rfl
def noE : XK := fun _ _ _ => False
theorem pass_no {X : Cx} : Passes (L2.CX X.prog X.w) X noE := fun _ _ _ _ _ _ _ h => by
  obtain ⟨_, _, _, _, _, _, _, _, _, _, _, _, z⟩ := h
  exact z.elim
theorem bootRepr : bootBuiltins "repr" = some (.builtin "repr") := by decide +kernel
abbrev sBook : Stmt := top 47
def Nbk : List Str := ["draws", "land", "names", "book", "handed", "was", "address", "due", "told", "ring", "kept", "name"]
theorem LandAt.bs {n : Nat} {p : Addr} {H H' : Hp} {C o : Addr} {xs : List V} {m : Int} (h : LandAt H C o xs m) (S : Src n H p) (b : ButS p H H') : LandAt H' C o xs m := by
  obtain ⟨dx, T, h1, h2⟩ := h
  exact ⟨dx, T, b _ _ (src_ne S h1 (by intro xs z; cases z)) h1, b _ _ (src_ne S h2 (by intro xs z; cases z)) h2⟩
theorem keys_ent {H : Hp} : ∀ {kvs : List (Key × V)} {bs : List (Str × List Str)}, Paired (EntP H) kvs bs → kvs.map (fun p => kV p.1) = (bs.map Prod.fst).map V.str
  | _, _, .nil => rfl
  | _, _, .cons h r => by
    rw [List.map_cons, List.map_cons, List.map_cons, keys_ent r, h.1] <;> rfl
def spBook (C : Addr) : List V → Hp → VK → Prop := fun vs H Q => ∃ (p l a b : Addr) (ns : List Str) (m : Int) (bs : List (Str × List Str)) (n : Nat), vs = [.ref p, .ref l, .ref a, .ref b] ∧ Src n H p ∧ n < 700000000 ∧ LandAt H C l (ns.map V.str) m ∧ H a = some (.lst (ns.map V.str)) ∧ a ≠ p ∧ GoodN ns ∧ (∀ x ∈ ns, x ∈ sixN) ∧ ns.length ≤ 6 ∧ BkL H b bs ∧ BookL ns bs ∧ ∀ H', ButS p H H' → Src (n + 12) H' p → Q (.bl true) H'
theorem scBook : FnScope Nbk ["draws", "land", "names", "book"] (defScope sBook) := ⟨rfl, rfl, rfl, by decide +kernel, rfl, by decide +kernel, by decide +kernel⟩
/-- a pair of an address and its entry, as it is handed -/
def PairA (A p : Addr) (G : Hp) (t : Addr) (e : Ent) : Prop := ∃ u, u ≠ A ∧ u ≠ p ∧ G t = some (.tup [.str e.1, .ref u]) ∧ G u = some (mkX e.2.1 (e.2.2.map V.str))
theorem pairs_kvs {K : PySem.W.Frag} {A p : Addr} {G : Hp} : ∀ {ts : List Addr} {es : List Ent}, Paired (PairA A p G) ts es → ∃ kvs : List (Key × V), Paired (fun (t : Addr) (kv : Key × V) => SqT K G t [kV kv.1, kv.2]) ts kvs ∧ Paired (EntX G) kvs es ∧ kvs.map Prod.fst = (es.map Prod.fst).map Sum.inr
  | _, _, .nil => ⟨[], .nil, .nil, rfl⟩
  | _, _, .cons (b := e) ⟨u, _, _, h1, h2⟩ r => by
    obtain ⟨kvs, a1, a2, a3⟩ := pairs_kvs (K := K) r
    exact ⟨(.inr e.1, .ref u) :: kvs, .cons (SqT.of h1) a1, .cons ⟨rfl, u, rfl, h2⟩ a2, by rw [List.map_cons, List.map_cons, List.map_cons, a3]⟩
theorem along_of {K : PySem.W.Frag} {C CL CK CN l : Addr} {tell : List Str → (Str → Option (List Str)) → Str → VK → Hp → Prop} {ns : List Str} {m : Int} {bv : V} {rs : BkR} {sc : Str → Option (List Str)} {x : Str} {H : Hp} {Q : VK} (lq : LandQ K C H (.ref l) true) (la : LandAt H C l (ns.map V.str) m) (g : GoodN ns) (bw : BkW K H bv (some rs)) (yes : bookOf ns (some rs) = some sc) (xn : x ∈ ns) (t : tell ns sc x Q H) : spAlong K C CL CK CN tell [.ref l, bv, .str x] H Q noE :=
  ⟨_, _, _, true, rfl, lq, (fun z => by cases z), fun _ => ⟨l, ns, m, some rs, rfl, la, g, bw, (fun z => by rw [yes] at z; cases z), fun sc2 y2 => ⟨.str, .str (g.short x xn), (fun z => by
    have z : decide (x ∈ ns) = false := z
    rw [decide_eq_true xn] at z
    cases z), fun ad e _ => by
    rw [yes] at y2
    cases V.str.inj e
    cases Option.some.inj y2
    exact t⟩⟩⟩
theorem str_pair {K : PySem.W.Frag} {C : Addr} {d : Nat} {H : Hp} : ∀ {ss : List Str}, (∀ s ∈ ss, s.length ≤ 100) → Paired (SameV K C (d + 1) H) (ss.map V.str) (ss.map V.str)
  | [], _ => .nil
  | s :: ss, h => .cons (SameW.str (h s (List.mem_cons_self ..))) (str_pair fun x m => h x (List.mem_cons_of_mem _ m))
theorem small_non : SmallD .none := ⟨rfl, by decide, by decide⟩
theorem none_back {H H' : Hp} {a : Addr} (e : Same H H') (n : H' a = none) : H a = none := by
  cases h : H a with
  | none => rfl
  | some o =>
    rw [e _ _ h] at n
    cases n
theorem bne_self (v : V) : V.bl (!decide (v = v)) = V.bl false := by rw [decide_eq_true rfl] <;> rfl
theorem bookR_at {X : Cx} {f fM fL fF fG fS fI fW fA C : Addr} {fdM fdL fdF fdG fdS fdI fdW fdA : FuncData} {CL CK CN : Addr} (hg : X.A.guards = some []) (hsys : ∃ o, X.base.get? sysModules = some o) (hm : X.mg "repr" = none) (T : TxtC X.mg) (TF : TxtF X.mg) (L : LandM X.prog X.w X.K X.mg X.base C fA fdA)
    (GM : FnOk X.prog X.w X.K X.mg X.base CX0 2 fM fdM ["draws", "some"] spMixed) (gM : X.mg "_law_mixed" = some (.ref fM)) (kM : PySem.W.keepIn X.K (.ref fM) = true) (bM : Binds X.K fdM ["draws", "some"] [])
    (GL : FnOk X.prog X.w X.K X.mg X.base CX0 2 fL fdL ["draws", "thing"] spLoose1) (gL : X.mg "_law_loose" = some (.ref fL)) (kL : PySem.W.keepIn X.K (.ref fL) = true) (bL : Binds X.K fdL ["draws", "thing"] [])
    (GF : FnOk X.prog X.w X.K X.mg X.base (L2.CX X.prog X.w) 5 fF fdF ["land", "book", "address"] (spAlong X.K C CL CK CN tellF)) (gF : X.mg "follow" = some (.ref fF)) (kF : PySem.W.keepIn X.K (.ref fF) = true) (bF : Binds X.K fdF ["land", "book", "address"] []) (kwF : KBn X.K fdF ["land", "book", "address"] 0 ["address", "book", "land"] (fun _ ws => ws.reverse) (fun _ zs => zs.reverse))
    (GG : FnOk X.prog X.w X.K X.mg X.base (L2.CX X.prog X.w) 5 fG fdG ["land", "book", "address"] (spAlong X.K C CL CK CN tellR)) (gG : X.mg "ring_of" = some (.ref fG)) (kG : PySem.W.keepIn X.K (.ref fG) = true) (bG : Binds X.K fdG ["land", "book", "address"] []) (kwG : KBn X.K fdG ["land", "book", "address"] 0 ["address", "book", "land"] (fun _ ws => ws.reverse) (fun _ zs => zs.reverse))
    (GS : FnOk X.prog X.w X.K X.mg X.base CX0 4 fS fdS ["found", "due"] (spSame (SameV X.K C 3))) (gS : X.mg "_law_same" = some (.ref fS)) (kS : PySem.W.keepIn X.K (.ref fS) = true) (bS : Binds X.K fdS ["found", "due"] [])
    (GI : FnOk X.prog X.w X.K X.mg X.base CX0 2 fI fdI ["book", "address", "told"] spIsRing) (gI : X.mg "_law_is_ring" = some (.ref fI)) (kI : PySem.W.keepIn X.K (.ref fI) = true) (bI : Binds X.K fdI ["book", "address", "told"] [])
    (GW : FnOk X.prog X.w X.K X.mg X.base CX0 3 fW fdW ["names", "book", "address"] (spLFol X.K)) (gW : X.mg "_law_follow" = some (.ref fW)) (kW : PySem.W.keepIn X.K (.ref fW) = true) (bW : Binds X.K fdW ["names", "book", "address"] []) : BodyAt X 5 f "_law_book_right" sBook ["draws", "land", "names", "book"] (spBook C) := by
  intro cdv s H vs Q hr h
  obtain ⟨p, l, a, b, ns, m, bs, n, rfl, S, hn, la, ha, np, g, six, l6, bl, hb, q⟩ := h
  have nd := scBook.nd
  have hr2 := hr.mono (show 2 ≤ 5 by decide)
  have hr3 := hr.mono (show 3 ≤ 5 by decide)
  have hr4 := hr.mono (show 4 ≤ 5 by decide)
  have hun := hr.units
  have hu := hr.un
  have hg' : (cxOf CX0 X.prog X.w X.K X.mg X.base Nbk "_law_book_right" (defScope sBook) f cdv X.A X.stack s H (fun _ _ _ => False)).A.guards = some [] := hg
  have hu' : (cxOf CX0 X.prog X.w X.K X.mg X.base Nbk "_law_book_right" (defScope sBook) f cdv X.A X.stack s H (fun _ _ _ => False)).A.units + 64 < cLine := by
    show (X.A.deeper (envOfC "_law_book_right" (defScope sBook) s.heap.objs.size f cdv)).units + 64 < cLine
    omega
  refine ⟨rfl, _, scBook, ?_⟩
  refine ⟨_, (pss_cons (ps_set (i := 4) nd rfl (Or.inl rfl) (pe_callTy (call_dictP rfl) (by rfl) TF.dict bDict (pa_cons (pe_lc (own := [("name", 11)]) (g := gName 11) (tt := tYes) rfl nd
          (pi_list (pe_call GM hr2 (by rfl) gM kM bM .nil pass0 (pa_cons (pv 0) (pa_cons (pe_callTy (call_list_dK rfl) (by rfl) T.list bList (pa_cons (pv 3) pa_nil)) pa_nil)))) (blkOk_by (N := Nbk) (sc := defScope sBook) (by decide +kernel)) (fun _ _ _ _ _ => pg_name (i := 11) nd rfl (Or.inl rfl)) (fun _ _ _ _ _ => pts_nil)
          (fun _ _ _ _ _ => pe_tup (pa_cons (pv 11) (pa_cons (pe_call GL hr2 (by rfl) gL kL bL .nil pass0 (pa_cons (pv 0) (pa_cons (pe_dget (Nat.lt_of_le_of_lt (Nat.add_le_add_left (by decide : 1 ≤ 64) _) hun) (pv 3) (pv 11) (fun _ _ => rfl)) pa_nil))) pa_nil)))) pa_nil)))
      (pss_cons (ps_set (i := 5) nd rfl (Or.inl rfl) (pe_callB (call_show hg' hu' hsys) (by rfl) hm bootRepr (pa_cons (pv 4) pa_nil)))
      (pss_cons (ps_for (passes_of rfl) rfl (pi_list (pv 2)) (pg_name (i := 6) nd rfl (Or.inl rfl))
        (pss_cons (ps_set (i := 7) nd rfl (Or.inl rfl) (pe_call GW hr3 (by rfl) gW kW bW .nil pass0 (pa_cons (pv 2) (pa_cons (pv 3) (pa_cons (pv 6) pa_nil)))))
        (pss_cons (ps_par (i := 8) (j := 9) (by rfl) nd rfl rfl (by decide) rfl rfl (pa_cons (pe_call (E := noE) GF hr (by rfl) gF kF bF .nil pass_no (pa_cons (pv 1) (pa_cons (pv 4) (pa_cons (pv 6) pa_nil)))) (pa_cons (pe_call (E := noE) GG hr (by rfl) gG kG bG .nil pass_no (pa_cons (pv 1) (pa_cons (pv 4) (pa_cons (pv 6) pa_nil)))) pa_nil)) (by rfl))
        (pss_cons (ps_if (pt_not (pt_val (pe_call GS hr4 (by rfl) gS kS bS .nil pass0 (pa_cons (pe_lst (pa_cons (pv 8) (pa_cons (pe_callKO (E := noE) GF hr (by rfl) gF kF kwF pass_no (pk_cons (pv 6) (pk_cons (pv 3) (pk_cons (pv 1) pk_nil)))) pa_nil))) (pa_cons (pe_lst (pa_cons (pv 7) (pa_cons (pv 7) pa_nil))) pa_nil))))) (pss_one (ps_ret pe_bl)) pss_nil)
        (pss_cons (ps_if (PW.pt (pw_or (pt_cmpR op_ne (pe_cmpR op_isN (pv 9) pe_non (nomark _)) (pe_cmpR op_notN (pv 7) pe_non (nomark _)) (nomark _))
            (pw_or1 (PW.pt (pw_and (pt_cmpR op_notN (pv 9) pe_non (nomark _)) (pw_and1 (pt_not (pt_val (pe_call GI hr2 (by rfl) gI kI bI .nil pass0 (pa_cons (pv 3) (pa_cons (pv 6) (pa_cons (pv 9) pa_nil)))))))))))) (pss_one (ps_ret pe_bl)) pss_nil)
        (pss_cons (ps_set (i := 10) nd rfl (Or.inl rfl) (pe_callB (call_show hg' hu' hsys) (by rfl) hm bootRepr (pa_cons (pv 9) pa_nil)))
        (pss_cons (ps_if (pt_cmpR op_notN (pv 9) pe_non (nomark _)) (pss_one (ps_expr (pe_bm PySem.F.plainAttrs_list PySem.F.slot_list_append PySem.F.type_list_append mt_append (pv 9) (pa_cons pe_str pa_nil)))) pss_nil)
        (pss_one (ps_if (PW.pt (pw_or (pt_cmpR op_ne (pe_callB (call_show hg' hu' hsys) (by rfl) hm bootRepr (pa_cons (pe_callKO (E := noE) GG hr (by rfl) gG kG kwG pass_no (pk_cons (pv 6) (pk_cons (pv 3) (pk_cons (pv 1) pk_nil)))) pa_nil)) (pv 10) (nomark _))
            (pw_or1 (pt_cmpR op_ne (pe_callB (call_show hg' hu' hsys) (by rfl) hm bootRepr (pa_cons (pv 4) pa_nil)) (pv 5) (nomark _))))) (pss_one (ps_ret pe_bl)) pss_nil)))))))))
      (pss_one (ps_ret pe_bl))))), ?_⟩
  have bsub : ∀ x ∈ bs.map Prod.fst, x ∈ ns := fun x mx => by
    obtain ⟨q, mq, rfl⟩ := List.mem_map.mp mx
    exact hb.keys q mq
  have lbs : bs.length ≤ 6 := by
    have := BK.nodup_sub hb.nd bsub
    rw [List.length_map] at this
    omega
  have shn := g.short
  obtain ⟨kvs0, hb0, pr0⟩ := id bl
  refine ⟨_, rfl, _, rfl, b, kvs0, rfl, hb0, fun kl nkl => ?_⟩
  rw [keys_ent pr0]
  have e1 : Same H (upd H kl (.lst ((bs.map Prod.fst).map V.str))) := Same.new nkl
  refine ⟨p, kl, bs.map Prod.fst, n, rfl, S.same e1, by omega, upd_same, S.ne nkl, by rw [List.length_map]; omega, fun s ms => g.lay s (bsub s ms), fun H2 D ys B2 S2 nD Dp gD pm => ⟨D, rfl, ⟨_, SqL.of gD⟩, fun A nA => ?_⟩⟩
  rw [List.length_map] at S2
  have B02 : ButS p H H2 := (ButS.same e1).trans B2
  have bl2 : BkL H2 b bs := bl.bs S B02
  have Ap : A ≠ p := S2.ne nA
  have DA : D ≠ A := ne_of_none gD nA
  have ynd : ys.Nodup := pm.nodup_iff.mpr hb.nd
  have yl : ys.length ≤ 6 := by rw [pm.length_eq, List.length_map]; exact lbs
  obtain ⟨kvs2, hb2, pr2⟩ := bl2
  have bA : b ≠ A := ne_of_none hb2 nA
  have bp : b ≠ p := src_ne S2 hb2 (by intro xs z; cases z)
  refine lc_it (walk_list (xs := ys.map V.str)) (fun i G => (∀ c o, c ≠ A → c ≠ p → H2 c = some o → G c = some o) ∧ Src (n + bs.length + i) G p ∧ ∃ ts es, G A = some (.lst (ts.map V.ref)) ∧ Paired (PairA A p G) ts es ∧ es.map Prod.fst = ys.take i ∧ ∀ e ∈ es, scL bs e.1 = some e.2.2)
    ⟨fun c o n1 n2 ec => by rw [upd_ne n1]; exact ec, S2.same (Same.new nA), [], [], upd_same, .nil, rfl, fun e me => by cases me⟩ (fun i G _ z => SqL.of (z.1 D _ DA Dp gD)) (fun i v G G' hi z y => ?_) (fun G z => ?_)
  · obtain ⟨K1, SG, ts, es, gA, pr, ek, ee⟩ := z
    obtain ⟨rfl, hx⟩ := y
    rw [List.getElem?_map] at hx
    obtain ⟨x, hx2, rfl⟩ := Option.map_eq_some_iff.mp hx
    have xm : x ∈ bs.map Prod.fst := pm.mem_iff.mp (List.mem_of_getElem? hx2)
    have li : i < ys.length := (List.getElem?_eq_some_iff.mp hx2).1
    rcases val_ent x pr2 with ⟨_, _, no⟩ | ⟨t, ex, v1, v2, v3, mem⟩
    · exact absurd xm no
    have gex := hb.good _ mem
    have lex : ex.length ≤ 6 := Nat.le_trans (BK.nodup_sub gex.1 gex.2.1) l6
    have tA : t ≠ A := ne_of_none v3 nA
    have tp : t ≠ p := src_ne S2 v3 (by intro xs z; cases z)
    have hbG := K1 b _ bA bp hb2
    have gtG := K1 t _ tA tp v3
    refine ⟨rfl, ?_⟩
    dsimp only [tYes]
    rw [if_pos rfl]
    refine ⟨_, rfl, _, rfl, _, rfl, _, rfl, b, _, rfl, (by have z := DGet.k (k := Sum.inr x) hbG; rw [v1] at z; exact z), p, t, ex, _, rfl, SG, by omega, gtG, by omega, fun s ms => shn s (gex.2.1 s ms), fun G3 u tpu B3 S3 nu up gu => ⟨by show 2 ≤ sizeLine; decide, fun tt ntt => ?_⟩⟩
    have gA3 := B3 _ _ Ap gA
    have uA : u ≠ A := (ne_of_none gA nu).symm
    have Att : A ≠ tt := ne_of_none gA3 ntt
    have e4 := Same.new (u := .tup [.str x, .ref u]) ntt
    have lts : ts.length = i := by
      rw [pr.length]
      have := congrArg List.length ek
      rw [List.length_map, List.length_take] at this
      omega
    refine ⟨_, e4 _ _ gA3, by rw [List.length_map, lts, sizeLine_eq]; omega, fun c o n1 n2 ec => ?_, (S3.same e4).put Ap, ts ++ [tt], es ++ [(x, tpu, ex)], by rw [upd_same, List.map_append] <;> rfl, ?_, ?_, fun e me => ?_⟩
    · rw [upd_ne n1]
      exact e4 _ _ (B3 _ _ n2 (K1 c o n1 n2 ec))
    · refine Paired.snoc (Paired.imp (fun t2 e2 z => ?_) pr) ⟨u, uA, up, by rw [upd_ne Att.symm, upd_same], by rw [upd_ne uA]; exact e4 _ _ gu⟩
      obtain ⟨u2, w1, w2, w3, w4⟩ := z
      refine ⟨u2, w1, w2, ?_, ?_⟩
      · rw [upd_ne (ne_of w3 gA (by intro y; cases y))]
        exact e4 _ _ (B3 _ _ (src_ne SG w3 (by intro xs y; cases y)) w3)
      · rw [upd_ne w1]
        exact e4 _ _ (B3 _ _ w2 w4)
    · rw [List.map_append, ek, List.take_add_one, hx2]
      rfl
    · rcases List.mem_append.mp me with me | me
      · exact ee e me
      · rw [List.mem_singleton.mp me]
        exact v2
  obtain ⟨K1, SG, ts, es, gA, pr, ek, ee⟩ := z
  rw [List.length_map] at SG ek
  rw [List.take_length] at ek
  obtain ⟨kvs, pk, pe, kk⟩ := pairs_kvs (K := X.K) pr
  have hh : Handed bs es := ⟨by rw [ek]; exact ynd, fun x => by rw [ek]; exact pm.mem_iff, ee⟩
  have les : es.length ≤ 6 := by
    have := congrArg List.length ek
    rw [List.length_map] at this
    omega
  refine ⟨A, ts, kvs, rfl, SqL.of gA, pk, fun hd nhd => ?_⟩
  rw [merge_new kvs [] (by rw [List.nil_append, kk, ek]; exact List.Pairwise.map _ (fun a b h z => h (Sum.inr.inj z)) ynd), List.nil_append]
  have e5 : Same G (upd G hd (.dK kvs)) := Same.new nhd
  have ghd : (upd G hd (.dK kvs)) hd = some (.dK kvs) := upd_same
  have S5 := SG.same e5
  have B5 : ButS p H (upd G hd (.dK kvs)) := fun c o n1 ec => by
    have e2 := B02 c o n1 ec
    exact e5 _ _ (K1 c o (ne_of_none e2 nA) n1 e2)
  have pe5 := Paired.imp (fun q e z => z.same e5) pe
  show tSeq _ _ _ _ (upd G hd (.dK kvs))
  generalize upd G hd (.dK kvs) = Hh at ghd S5 B5 pe5 ⊢
  clear e5 K1 SG gA pk pe kk pr nhd nA gD pr2 hb2 S2 B2 nkl
  have laH := la.bs S B5
  have haH := B5 _ _ np ha
  have blH : BkL Hh b bs := bl.bs S B5
  have bnL := hb.n g.few
  have gb := book_good g (book_L hb)
  have bnP := gb.1
  have smallH : SmallD (.dict (es.map entD)) := small_dct (fun e me => by
    have gq := hb.good _ (scL_mem (ee e me))
    have le : e.2.2.length ≤ ns.length := BK.nodup_sub gq.1 gq.2.1
    exact ⟨six _ (hb.keys _ (scL_mem (ee e me))), by omega, fun s ms => six s (gq.2.1 s ms)⟩) (by omega)
  refine ⟨_, rfl, .ref hd, _, rfl, .dct ghd pe5, smallH, ?_⟩
  refine ⟨_, rfl, a, rfl, ⟨_, SqL.of haH⟩, ?_⟩
  refine for_it (walk_list (xs := ns.map V.str)) (fun i σ G => (∃ o6 o7 o8 o9 o10 : Option V, σ = [some (.ref p), some (.ref l), some (.ref a), some (.ref b), some (.ref hd), some (.str (PyData.dict (es.map entD)).shown), o6, o7, o8, o9, o10, none]) ∧ Same Hh G) ⟨⟨_, _, _, _, _, rfl⟩, Same.refl _⟩ (fun i σ G _ z => SqL.of (z.2 _ _ haH)) (fun i v σ G G' hi z y => ?_) (fun σ G z => ?_)
  · obtain ⟨⟨o6, o7, o8, o9, o10, rfl⟩, eG⟩ := z
    obtain ⟨rfl, hx⟩ := y
    rw [List.getElem?_map] at hx
    obtain ⟨x, hx2, rfl⟩ := Option.map_eq_some_iff.mp hx
    have xn : x ∈ ns := List.mem_of_getElem? hx2
    have bkX : ∀ J, Same Hh J → BkW X.K J (.ref hd) (some (rsX es)) := fun J e => bk_X (e _ _ ghd) (Paired.imp (fun q e2 z => z.same e) pe5) hh hb g (by omega)
    have bkL : ∀ J, Same Hh J → BkW X.K J (.ref b) (some (rsL bs)) := fun J e => bk_L (blH.same e) hb g (by omega)
    have shH : ∀ J, Same Hh J → ShD J (.ref hd) (.dict (es.map entD)) := fun J e => .dct (e _ _ ghd) (Paired.imp (fun q e2 z => z.same e) pe5)
    have two : 2 ≤ sizeLine := by decide
    dsimp only [gName]
    refine ⟨_, rfl, _, rfl, _, rfl, a, b, x, ns, scL bs, rfl, eG _ _ haH, (blH.same eG).at, bnL, xn, fun rd H1 e1 => ?_, fun nr met ma H1 T e1 nT gT => ?_⟩
    · have rdP : BK.Round (scF (scP ns bs)) x := (BK.round_congr (scP_mem hb)).mpr rd
      obtain ⟨rs, hrs⟩ : ∃ rs, ringOf (scP ns bs) (metF ns (scP ns bs) x) = some rs := by
        cases e : ringOf (scP ns bs) (metF ns (scP ns bs) x) with
        | none => exact absurd rdP (ring_none bnP xn e)
        | some rs => exact ⟨rs, rfl⟩
      have arN : arrF ns (scP ns bs) x = none := by unfold arrF; rw [hrs]
      obtain ⟨rg, rsub, rrch, _⟩ := ring_some bnP xn hrs
      have rgL := rg.congr (scP_mem hb)
      have r2 := rg.two gb.2
      have rl : rs.length ≤ 6 := Nat.le_trans (BK.nodup_sub rg.nd rsub) l6
      have f1 := eG.trans e1
      refine ⟨_, rfl, _, rfl, _, rfl, along_of (L.is (laH.same f1)) (laH.same f1) g (bkX _ f1) (book_X hb hh) xn ⟨fun _ H2 e2 => ?_, fun as z => by rw [arN] at z; cases z⟩⟩
      have f2 := f1.trans e2
      refine ⟨_, rfl, _, rfl, _, rfl, along_of (L.is (laH.same f2)) (laH.same f2) g (bkX _ f2) (book_X hb hh) xn ⟨(fun z => by rw [hrs] at z; cases z), fun rs' z H3 R e3 nR gR => ?_⟩⟩
      rw [hrs] at z
      cases Option.some.inj z
      have f3 := f2.trans e3
      refine ⟨_, _, rfl, ?_⟩
      refine ⟨_, rfl, _, rfl, _, rfl, _, rfl, rfl, rfl, along_of (L.is (laH.same f3)) (laH.same f3) g (bkL _ f3) (book_L hb) xn ⟨fun _ H4 e4 => ?_, fun as z => by rw [arN] at z; cases z⟩⟩
      have f4 := f3.trans e4
      refine ⟨two, fun a1 n1 => ?_⟩
      refine ⟨_, rfl, _, rfl, two, fun a2 n2 => ?_⟩
      have g1 : Same H4 (upd H4 a1 (.lst [V.non, V.non])) := Same.new n1
      have g2 := Same.new (u := .lst [V.non, V.non]) n2
      refine ⟨.ref a1, .ref a2, rfl, SameW.seq (tp := false) (xs := [.non, .non]) (ys := [.non, .non]) (g2 _ _ upd_same) upd_same (by decide) (.cons .non (.cons .non .nil)), fun H5 e5 => ⟨true, rfl, ?_⟩⟩
      have d5 : Same H3 H5 := ((e4.trans g1).trans g2).trans e5
      have f5 := f3.trans d5
      have gR5 := d5 _ _ gR
      clear g1 g2 e5 n1 n2 e4 f4
      refine ⟨_, rfl, rfl, _, rfl, rfl, rfl, false, rfl, ?_⟩
      refine ⟨_, rfl, rfl, true, rfl, ?_⟩
      refine ⟨_, rfl, _, rfl, _, rfl, b, R, x, ns, rs, scL bs, rfl, (blH.same f5).at, bnL, xn, gR5, rgL, r2, by omega, rsub, fun y my => (rrch y my).congr (scP_mem hb), fun H6 e6 => ⟨true, rfl, ?_⟩⟩
      have f6 := f5.trans e6
      have gR6 := e6 _ _ gR5
      have smR : SmallD (topD false (txtD rs)) := small_seq ⟨by omega, fun s ms => six s (rsub s ms)⟩
      refine ⟨_, rfl, _, _, rfl, .seq (tp := false) gR6, smR, ?_⟩
      refine ⟨_, rfl, rfl, true, rfl, ?_⟩
      refine ⟨_, rfl, .inl ⟨rfl, _, SqL.of gR6⟩, R, _, _, rfl, rfl, gR6, by rw [List.length_map, sizeLine_eq]; omega, ?_⟩
      have hR : Hh R = none := none_back f2 nR
      have f7 : Same Hh (upd H6 R (.lst (rs.map V.str ++ [V.str "late"]))) := fun c o h => by rw [upd_ne (ne_of_none h hR)]; exact f6 _ _ h
      generalize upd H6 R (.lst (rs.map V.str ++ [V.str "late"])) = H7 at f7 ⊢
      refine ⟨_, rfl, _, rfl, _, rfl, rfl, rfl, along_of (L.is (laH.same f7)) (laH.same f7) g (bkL _ f7) (book_L hb) xn ⟨(fun z => by rw [hrs] at z; cases z), fun rs' z H8 R8 e8 _ gR8 => ?_⟩⟩
      rw [hrs] at z
      cases Option.some.inj z
      have f8 := f7.trans e8
      refine ⟨_, _, rfl, .seq (tp := false) gR8, smR, _, rfl, rfl, false, bne_self _, ?_⟩
      refine ⟨_, rfl, _, _, rfl, shH _ f8, smallH, _, rfl, rfl, false, bne_self _, ?_⟩
      exact ⟨⟨_, _, _, _, _, rfl⟩, f8⟩
    · have hrs : ringOf (scP ns bs) (metF ns (scP ns bs) x) = none := by
        cases e : ringOf (scP ns bs) (metF ns (scP ns bs) x) with
        | none => rfl
        | some rs => exact absurd ((BK.round_congr (scP_mem hb)).mp (ring_some bnP xn e).2.2.2) nr
      have arS := arr_same hb bnP xn hrs ma
      have f1 := eG.trans e1
      have las : (ns.filter fun y => decide (y ∈ met) && !inB (scL bs) y).length ≤ ns.length := List.length_filter_le _ _
      have sas : ∀ s ∈ ns.filter fun y => decide (y ∈ met) && !inB (scL bs) y, s.length ≤ 100 := fun s ms => shn s (List.mem_filter.mp ms).1
      generalize (ns.filter fun y => decide (y ∈ met) && !inB (scL bs) y) = as at arS gT las sas
      have sv : ∀ J, Paired (SameV X.K C 1 J) (as.map V.str) (as.map V.str) := fun J => str_pair sas
      refine ⟨_, rfl, _, rfl, _, rfl, along_of (L.is (laH.same f1)) (laH.same f1) g (bkX _ f1) (book_X hb hh) xn ⟨(fun z => by rw [arS] at z; cases z), fun as1 z H2 T2 e2 nT2 gT2 => ?_⟩⟩
      rw [arS] at z
      cases Option.some.inj z
      have f2 := f1.trans e2
      refine ⟨_, rfl, _, rfl, _, rfl, along_of (L.is (laH.same f2)) (laH.same f2) g (bkX _ f2) (book_X hb hh) xn ⟨fun _ H3 e3 => ?_, fun rs z => by rw [hrs] at z; cases z⟩⟩
      have f3 := f2.trans e3
      refine ⟨_, _, rfl, ?_⟩
      refine ⟨_, rfl, _, rfl, _, rfl, _, rfl, rfl, rfl, along_of (L.is (laH.same f3)) (laH.same f3) g (bkL _ f3) (book_L hb) xn ⟨(fun z => by rw [arS] at z; cases z), fun as2 z H4 T4 e4 nT4 gT4 => ?_⟩⟩
      rw [arS] at z
      cases Option.some.inj z
      have f4 := f3.trans e4
      refine ⟨two, fun a1 n1 => ?_⟩
      refine ⟨_, rfl, _, rfl, two, fun a2 n2 => ?_⟩
      have g1 : Same H4 (upd H4 a1 (.lst [V.ref T2, V.ref T4])) := Same.new n1
      have g2 := Same.new (u := .lst [V.ref T, V.ref T]) n2
      have g3 := g1.trans g2
      refine ⟨.ref a1, .ref a2, rfl, SameW.seq (tp := false) (xs := [.ref T2, .ref T4]) (ys := [.ref T, .ref T]) (g2 _ _ upd_same) upd_same (by show 2 < 1000; decide) (.cons ?_ (.cons ?_ .nil)), fun H5 e5 => ⟨true, rfl, ?_⟩⟩
      · exact SameW.seq (tp := true) (g3 _ _ (e4 _ _ (e3 _ _ gT2))) (g3 _ _ (e4 _ _ (e3 _ _ (e2 _ _ gT)))) (by rw [List.length_map]; omega) (sv _)
      · exact SameW.seq (tp := true) (g3 _ _ gT4) (g3 _ _ (e4 _ _ (e3 _ _ (e2 _ _ gT)))) (by rw [List.length_map]; omega) (sv _)
      have f5 := (f4.trans g3).trans e5
      clear g1 g2 g3 e5 n1 n2 e4 f4
      refine ⟨_, rfl, rfl, _, rfl, rfl, rfl, false, rfl, ?_⟩
      refine ⟨_, rfl, rfl, false, rfl, ?_⟩
      refine ⟨_, rfl, _, _, rfl, .non, small_non, ?_⟩
      refine ⟨_, rfl, rfl, false, rfl, ?_⟩
      refine ⟨_, rfl, _, rfl, _, rfl, rfl, rfl, along_of (L.is (laH.same f5)) (laH.same f5) g (bkL _ f5) (book_L hb) xn ⟨fun _ H8 e8 => ?_, fun rs z => by rw [hrs] at z; cases z⟩⟩
      have f8 := f5.trans e8
      refine ⟨_, _, rfl, .non, small_non, _, rfl, rfl, false, bne_self _, ?_⟩
      refine ⟨_, rfl, _, _, rfl, shH _ f8, smallH, _, rfl, rfl, false, bne_self _, ?_⟩
      exact ⟨⟨_, _, _, _, _, rfl⟩, f8⟩
  · obtain ⟨⟨o6, o7, o8, o9, o10, rfl⟩, eG⟩ := z
    exact q G (B5.trans (ButS.same eG)) ((S5.same eG).mono (by omega))
end OB
namespace OB
open PySem PySem.Spec PyProof.Rows L2 LamX
/-! ### the law itself -/
section
variable {X : Cx} {k : Nat} {f : Addr} {x : Str} {st : Stmt} {fd : FuncData} {ps : List Str} {sp : List V → Hp → VK → Prop} {e : Expr} {es : List Expr} {t : TA} {p pos : Pos}
theorem pe_at (F : Fun X.K x x st f fd) (B : BodyAt X k f x st ps sp) (hr : Room (k + 1) X.A) (hg : Gl X x) (hm : X.mg x = some (.ref f)) (hb : L2.Binds X.K fd ps []) (ha : PA X (e :: es) t)
    (hdb : (x == ("__debug__" : Str)) = false := by decide) (hs : starEach (e :: es) X.env = (false, eval e X.env) :: starEach es X.env := by rfl) (hpl : (backTo pos (starEach es X.env)).any (·.1) = false := by rfl) :
    PE X (.Call (.Name x p) (e :: es) [] pos) (fun σ H Q => t σ H fun vs H1 => sp vs H1 Q) := by
  refine ⟨fun pins s σ H Q I h => wpAny_Call_Name_kw (ld_glob I hg hm ?_ hdb)⟩
  refine PySem.W.callWith_K (h₀ := X.base) I.ok.mod.kin F.kp (thn (ha.run pos pins s σ H _ I h) fun us s1 ⟨vs, H1, I1, r1, q1⟩ => ⟨I1.kIn, ?_⟩) hs hpl
  obtain ⟨oc, od, kV, doc, pm, an, cdv, ct, osl, rfl, lk, hcd⟩ := F.ex
  show wpAny _ _ (call (.ref f) us) _ _ _
  obtain ⟨hl, N, S, tt, ht, hq⟩ := B cdv s1 H1 vs Q (hr.deeper _) q1
  have hu : us.length = ps.length := r1.length ▸ hl
  have bd : BindsTo s1 (PySem.W.fnOf x x (defArgs st) (defBody st) (defScope st) .none kV doc pm an cdv ct) ⟨us, []⟩ (ps.zip us) := by
    have z := hb s1 us I1.kIn (by rw [List.append_nil]; exact hu)
    rw [List.append_nil] at z
    exact z
  refine wpAny_call (codeAny_mono (run_ofS (Q := Q) lk hcd S hr I1.env0 bd r1 hl fun _ => ⟨tt, ht, hq⟩) fun r s' z => ?_)
  match r, z with
  | .ok (.ret u), z => exact I1.after z
end
theorem Tabs.but {n : Nat} {T : List (Addr × Str)} {p : Addr} {H H' : Hp} (t : Tabs T H) (S : Src n H p) (e : ButS p H H') : Tabs T H' := fun y hy => by
  obtain ⟨ps, h1, h2, h3⟩ := t y hy
  refine ⟨ps, e _ _ (src_ne S h1 (by intro xs z; cases z)) h1, h2, fun pos cv hc => ?_⟩
  obtain ⟨c, e1, e2⟩ := h3 pos cv hc
  exact ⟨c, e1, e _ _ (src_ne S e2 (by intro xs z; unfold CodeO at z; cases z)) e2⟩
theorem SqL.keepS {K : PySem.W.Frag} {p t : Addr} {H H1 H2 : Hp} {xs : List V} (h : SqL K H t xs) (n : H p = none) (e : Same H H1) (b : ButS p H1 H2) : SqL K H2 t xs := by
  rcases h with (h | ⟨o, h⟩) | h
  · exact .inl (.inl (b _ _ (ne_of_none h n) (e _ _ h)))
  · exact .inl (.inr ⟨o, b _ _ (ne_of_none h n) (e _ _ h)⟩)
  · exact .inr h
theorem SqL.extN {K : PySem.W.Frag} {t : Addr} {H H' : Hp} {xs : List V} (h : SqL K H t xs) (e : ExtN H H') : SqL K H' t xs := by
  rcases h with (h | ⟨o, h⟩) | h
  · exact .inl (.inl (e _ _ h (by intro ps z; cases z)))
  · exact .inl (.inr ⟨o, e _ _ h (by intro ps z; cases z)⟩)
  · exact .inr h
/-! ### a land of drawn names -/
theorem six_names : ∀ s ∈ sixN, isNameS s = true ∧ s.length ≤ 100 ∧ PyData.canLay0 (.str s) = true := by decide +kernel
theorem six_out : ("none" : Str) ∉ sixN ∧ ("late!" : Str) ∉ sixN ∧ ("" : Str) ∉ sixN := by decide +kernel
theorem out_of {ns : List Str} (m : ∀ x ∈ ns, x ∈ sixN) : OutN ns := ⟨fun z => six_out.1 (m _ z), fun z => six_out.2.1 (m _ z), fun z => six_out.2.2 (m _ z)⟩
theorem good_of {ns : List Str} (nd : ns.Nodup) (m : ∀ x ∈ ns, x ∈ sixN) (l : ns.length ≤ 6) : GoodN ns := ⟨nd, by omega, fun s ms => (six_names s (m s ms)).2.2, fun s ms => (six_names s (m s ms)).2.1⟩
theorem nd_at {ss : List Str} (nd : ss.Nodup) {i j : Nat} (hi : i < ss.length) (hj : j < ss.length) (h : i < j) : ss[i] ≠ ss[j] := List.pairwise_iff_getElem.mp nd i j hi hj h
theorem odd_no {ss : List Str} (nd : ss.Nodup) (m : ∀ x ∈ ss, x ∈ sixN) : ∀ j, j < (ss.map V.str).length → oddAt (ss.map V.str) j = false := fun j hj => by
  rw [List.length_map] at hj
  unfold oddAt
  rw [List.getElem?_map, List.getElem?_eq_getElem hj]
  show (!isNameS ss[j] || _) = false
  rw [(six_names _ (m _ (List.getElem_mem hj))).1, ← List.map_take]
  show (false || decide (V.str ss[j] ∈ (ss.take j).map V.str)) = false
  rw [Bool.false_or]
  refine decide_eq_false fun m => ?_
  obtain ⟨s, ms, e⟩ := List.mem_map.mp m
  rw [V.str.inj e] at ms
  obtain ⟨i, hi, q⟩ := List.getElem_of_mem ms
  rw [List.getElem_take] at q
  rw [List.length_take] at hi
  exact nd_at nd (by omega) hj (by omega) q
theorem any_strs {K : PySem.W.Frag} {H : Hp} {ss : List Str} (m : ∀ x ∈ ss, x ∈ sixN) : AllAny K H (ss.map V.str) := fun x mx => by
  obtain ⟨s, ms, rfl⟩ := List.mem_map.mp mx
  exact ⟨.str, .str (six_names s (m s ms)).2.1⟩
theorem mkLand {K : PySem.W.Frag} {C CA CM x dx a : Addr} {H : Hp} {ss : List Str} {m : Int} {Q : VK} (nd : ss.Nodup) (mm : ∀ x ∈ ss, x ∈ sixN) (two : 2 ≤ ss.length) (l6 : ss.length ≤ 6) (hm : 1 ≤ m) (hx : H x = some (.ins C dx [])) (ha : H a = some (.lst (ss.map V.str))) (q : ∀ H', ButS x H H' → LandAt H' C x (ss.map V.str) m → Q .non H') :
    spLandInit K C CA CM [.ref x, .ref a, .int m] H Q noE := by
  refine ⟨x, dx, .ref a, .int m, .lst, .int, rfl, hx, .lst ha, .int m, (fun h => by cases h), fun _ => ⟨a, false, ss.map V.str, rfl, SqX.at (tp := false) ha, any_strs mm, by rw [List.length_map]; omega, fun i H' d due _ _ _ => ?_, fun _ _ => ⟨fun h => ?_, fun i e hi H' b l => ?_⟩⟩⟩
  · obtain ⟨d1, d2, d3, d4⟩ := due
    rcases Nat.lt_or_eq_of_le d1 with z | z
    · have y := d3 z
      rw [odd_no nd mm i z] at y
      cases y
    · have y := d4 z
      rw [List.length_map] at y
      omega
  · have y : decide (1 ≤ m) = false := h
    rw [decide_eq_true hm] at y
    cases y
  · rw [← V.int.inj e] at l
    exact q H' b l
theorem made_same {H1 H' : Hp} {x dx : Addr} {u v : HO} (nx : H1 x = none) (ndx : H1 dx = none) (b : ButS x (upd (upd H1 dx u) x v) H') : Same H1 H' := fun c o e => by
  have cx := ne_of_none e nx
  exact b c o cx (by rw [upd_ne cx, upd_ne (ne_of_none e ndx)]; exact e)
structure LandK (P : Program) (w : World) (K : PySem.W.Frag) (mg : Str → Option Value) (base : Heap) (C CA CM fI : Addr) (fdI : FuncData) : Prop where
  M : Mk K C fI
  gC : mg "Land" = some (.ref C)
  GI : FnOk P w K mg base (L2.CX P w) 4 fI fdI ["self", "addresses", "most"] (spLandInit K C CA CM)
  bI : Binds K fdI ["self", "addresses", "most"] []
abbrev sLaw : Stmt := top 49
def Nlw : List Str := ["script", "turn", "draws", "names", "land", "again", "book"]
theorem scLaw : FnScope Nlw ["script"] (defScope sLaw) := ⟨rfl, rfl, rfl, by decide +kernel, rfl, by decide +kernel, by decide +kernel⟩
/-- the law's own context, at the outermost caller -/
abbrev cxLaw (P : Program) (w : World) (K : PySem.W.Frag) (mg : Str → Option Value) (base : Heap) (fa : Addr) (cdv : Value) (s : Shared) (H : Hp) : Cx := (cxOf CX0 P w K mg base Nlw "law" (defScope sLaw) fa cdv callerA [] s H (fun _ _ _ => False)).nox
section
variable {P : Program} {w : World} {K : PySem.W.Frag} {mg : Str → Option Value} {base : Heap}
theorem law_body {fa fO fD fN fY fR fB fI fA C CA CM a : Addr} {fdO fdD fdN fdY fdR fdB fdI fdA : FuncData} {cdv : Value} {s : Shared} {H : Hp} {TT : List (Addr × Str)} {zs : List Int} (T : TxtC mg) (TD : TxtD mg) (hmin : mg "min" = none) (L : LandM P w K mg base C fA fdA) (LK : LandK P w K mg base C CA CM fI fdI)
    (GO : FnOk P w K mg base CX0 1 fO fdO ["script", "place"] (spSource K)) (gO : mg "_law_source" = some (.ref fO)) (kO : PySem.W.keepIn K (.ref fO) = true) (bO : Binds K fdO ["script", "place"] [])
    (GD : FnOk P w K mg base CX0 1 fD fdD ["draws", "many"] spDraw) (gD : mg "_law_draw" = some (.ref fD)) (kD : PySem.W.keepIn K (.ref fD) = true) (bD : Binds K fdD ["draws", "many"] [])
    (GN : FnOk P w K mg base CX0 3 fN fdN ["draws", "many"] spLNames) (gN : mg "_law_land_names" = some (.ref fN)) (kN : PySem.W.keepIn K (.ref fN) = true) (bN : Binds K fdN ["draws", "many"] [])
    (GY : FnOk P w K mg base CX0 3 fY fdY ["draws", "names", "most"] spAnyB) (gY : mg "_law_any_book" = some (.ref fY)) (kY : PySem.W.keepIn K (.ref fY) = true) (bY : Binds K fdY ["draws", "names", "most"] [])
    (GR : FnOk P w K mg base CX0 10 fR fdR ["draws", "land", "names", "book"] (spRefR K C TT)) (gR : mg "_law_refused_right" = some (.ref fR)) (kR : PySem.W.keepIn K (.ref fR) = true) (bR : Binds K fdR ["draws", "land", "names", "book"] [])
    (FB : Fun K "_law_book_right" "_law_book_right" sBook fB fdB) (gB : mg "_law_book_right" = some (.ref fB)) (bB : Binds K fdB ["draws", "land", "names", "book"] []) (DB : BodyAt (cxLaw P w K mg base fa cdv s H) 5 fB "_law_book_right" sBook ["draws", "land", "names", "book"] (spBook C))
    (hS : SqL K H a (zs.map V.int)) (hz : zs.length ≤ 100) (tabs : Tabs TT H) (hr : Room 10 (cxLaw P w K mg base fa cdv s H).A) :
    ∃ t, PSs (cxLaw P w K mg base fa cdv s H) (defBody sLaw) t ∧ t { nx := fun _ _ => (V.non = .bl true), rt := fun v _ => v = .bl true } (L2.start Nlw [.ref a]) H := by
  have nd := scLaw.nd
  have hr1 := hr.mono (show 1 ≤ 10 by decide)
  have hr3 := hr.mono (show 3 ≤ 10 by decide)
  have hr5 := hr.mono (show 5 ≤ 10 by decide)
  have hr6 := hr.mono (show 6 ≤ 10 by decide)
  refine ⟨_, pss_cons (ps_for PassesOwn.never rfl (pi_range1 (by rfl) TD.rng (pa_cons (pe_op op_add pe_int (pe_callB (call_min2 rfl) (by rfl) hmin (by decide +kernel) (pa_cons (pe_callB call_len_seq (by rfl) TD.len PySem.boot_len (pa_cons (pv 0) pa_nil)) (pa_cons pe_int pa_nil)))) pa_nil)) (pg_name (i := 1) nd rfl (Or.inl rfl))
      (pss_cons (ps_set (i := 2) nd rfl (Or.inl rfl) (pe_call GO hr1 (by rfl) gO kO bO .nil pass0 (pa_cons (pv 0) (pa_cons (pv 1) pa_nil))))
      (pss_cons (ps_set (i := 3) nd rfl (Or.inl rfl) (pe_call GN hr3 (by rfl) gN kN bN .nil pass0 (pa_cons (pv 2) (pa_cons (pe_op op_add pe_int (pe_call GD hr1 (by rfl) gD kD bD .nil pass0 (pa_cons (pv 2) (pa_cons pe_int pa_nil)))) pa_nil))))
      (pss_cons (ps_set (i := 4) nd rfl (Or.inl rfl) (pe_make (E := noE) LK.M LK.GI hr5 (by rfl) LK.gC LK.bI .nil pass_no (pa_cons (pv 3) (pa_cons (pe_op op_add pe_int (pe_call GD hr1 (by rfl) gD kD bD .nil pass0 (pa_cons (pv 2) (pa_cons pe_int pa_nil)))) pa_nil))))
      (pss_cons (ps_for PassesOwn.never rfl (pi_range1 (by rfl) TD.rng (pa_cons pe_int pa_nil)) (pg_name (i := 5) nd rfl (Or.inl rfl))
        (pss_cons (ps_set (i := 6) nd rfl (Or.inl rfl) (pe_call GY hr3 (by rfl) gY kY bY .nil pass0 (pa_cons (pv 2) (pa_cons (pv 3) (pa_cons (pe_op op_sub (pe_callB call_len_seq (by rfl) TD.len PySem.boot_len (pa_cons (pv 3) pa_nil)) pe_int) pa_nil)))))
        (pss_one (ps_if (pt_not (pt_val (pe_at FB DB hr6 (by rfl) gB bB (pa_cons (pv 2) (pa_cons (pv 4) (pa_cons (pv 3) (pa_cons (pv 6) pa_nil))))))) (pss_one (ps_ret pe_bl)) pss_nil))))
      (pss_one (ps_if (pt_not (pt_val (pe_call GR hr (by rfl) gR kR bR .nil pass0 (pa_cons (pv 2) (pa_cons (pv 4) (pa_cons (pv 3) (pa_cons (pv 6) pa_nil))))))) (pss_one (ps_ret pe_bl)) pss_nil)))))))
    (pss_one (ps_ret pe_bl)), ?_⟩
  refine ⟨_, rfl, a, _, rfl, .inl hS, _, 3, rfl, 4, _, rfl, rfl, ?_⟩
  obtain ⟨N, hN, lN⟩ : ∃ N : Nat, (4 : Int) + (if (3 : Int) < (((zs.map V.int).length : Nat) : Int) then (3 : Int) else (((zs.map V.int).length : Nat) : Int)) = (N : Int) ∧ N ≤ 7 := by
    by_cases c : (3 : Int) < (((zs.map V.int).length : Nat) : Int)
    · rw [if_pos c]
      exact ⟨7, rfl, Nat.le_refl _⟩
    · rw [if_neg c]
      exact ⟨4 + (zs.map V.int).length, by omega, by omega⟩
  refine ⟨(N : Int), congrArg (fun z => [V.int z]) hN, by omega, by omega, ?_⟩
  show ∃ W : Nat → Nat → L2.St → Hp → Prop, _
  rw [show ((N : Int)).toNat = N from Int.toNat_natCast N]
  refine for_range (n := N) (fun _ σ G => (∃ s1 s2 s3 s4 s5 s6 : Option V, σ = [some (.ref a), s1, s2, s3, s4, s5, s6]) ∧ SqL K G a (zs.map V.int) ∧ Tabs TT G) ⟨⟨_, _, _, _, _, _, rfl⟩, hS, tabs⟩ ?_ ?_
  · rintro i σ G hi ⟨⟨s1, s2, s3, s4, s5, s6, rfl⟩, hS, tabs⟩
    refine ⟨_, rfl, _, rfl, a, i, zs, by rw [Int.zero_add] <;> rfl, hS, hz, by omega, fun G1 p np e1 S1 => ?_⟩
    have t1 : Tabs TT G1 := Tabs.ext tabs e1
    refine ⟨_, rfl, _, rfl, p, 5, 0, rfl, S1, by decide, by decide, small_many (n := 5) (by decide), fun G2 c B2 S2 c0 c5 => ⟨2, c, rfl, rfl, ?_⟩⟩
    obtain ⟨many, hm⟩ : ∃ m : Nat, (2 : Int) + c = ((m : Nat) : Int) := ⟨(2 + c).toNat, by omega⟩
    have m1 : 2 ≤ many ∧ many ≤ 6 := by omega
    refine ⟨p, many, 1, congrArg (fun z => [V.ref p, V.int z]) hm, S2, by decide, m1.1, m1.2, fun G3 D ns B3 S3 nD Dp gD nds six ln => ?_⟩
    have g : GoodN ns := good_of nds six (by omega)
    refine ⟨_, rfl, _, rfl, p, 9, 7, rfl, S3, by decide, by decide, small_many (n := 9) (by decide), fun G4 d B4 S4 d0 d9 => ⟨1, d, rfl, rfl, ?_⟩⟩
    have gD4 := B4 _ _ Dp gD
    refine fun x dx nx ndx ne => mkLand nds six (by omega) (by omega) (by omega) upd_same (by rw [upd_ne (ne_of_none gD4 nx), upd_ne (ne_of_none gD4 ndx)]; exact gD4) fun G5 B5 L5 => ⟨rfl, ?_⟩
    have e5 : Same G4 G5 := made_same nx ndx B5
    have S5 : Src 8 G5 p := S4.same e5
    have gD5 := e5 _ _ gD4
    have B15 : ButS p G1 G5 := ((B2.trans B3).trans B4).trans (ButS.same e5)
    clear B2 B3 B4 B5 S2 S3 S4 gD gD4 e5 nD nx ndx
    have la5 := L5
    have D5 : D ≠ p := Dp
    refine ⟨4, rfl, by decide, by decide, ?_⟩
    refine for_range (n := 4) (fun j σ J => ∃ s5 s6 : Option V, σ = [some (.ref a), some (.int (0 + (i : Nat))), some (.ref p), some (.ref D), some (.ref x), s5, s6] ∧ ButS p G1 J ∧ Src (8 + 72 * j) J p ∧ LandAt J C x (ns.map V.str) (1 + d) ∧ J D = some (.lst (ns.map V.str)) ∧ (0 < j → ∃ b bs, s6 = some (.ref b) ∧ BkL J b bs ∧ BookL ns bs))
      ⟨_, _, rfl, B15, S5, la5, gD5, fun z => absurd z (Nat.lt_irrefl 0)⟩ (fun j σ J hj z => ?_) (fun σ J z => ?_)
    · obtain ⟨t5, t6, rfl, BJ, SJ, laJ, gDJ, _⟩ := z
      have em : (((ns.map V.str).length : Nat) : Int) - 1 = ((ns.length - 1 : Nat) : Int) := by
        rw [List.length_map]
        omega
      refine ⟨_, rfl, _, rfl, _, rfl, D, _, rfl, .inl (SqL.of gDJ), _, 1, rfl, rfl, ?_⟩
      refine ⟨p, D, ns, ns.length - 1, 8 + 72 * j, congrArg (fun z => [V.ref p, V.ref D, V.int z]) em, SJ, by omega, gDJ, Dp, g, by omega, by omega, fun J2 B bs B2 S2 nB Bp bl hb => ?_⟩
      refine ⟨_, rfl, _, rfl, _, rfl, _, rfl, p, x, D, B, ns, 1 + d, bs, _, rfl, S2, by omega, laJ.bs SJ B2, B2 _ _ Dp gDJ, Dp, g, six, by omega, bl, hb, fun J3 B3 S3 => ⟨true, rfl, iteF ?_⟩⟩
      exact ⟨_, _, rfl, (BJ.trans B2).trans B3, S3.mono (by omega), (laJ.bs SJ B2).bs S2 B3, B3 _ _ Dp (B2 _ _ Dp gDJ), fun _ => ⟨B, bs, rfl, bl.bs S2 B3, hb⟩⟩
    · obtain ⟨t5, t6, rfl, BJ, SJ, laJ, gDJ, bk⟩ := z
      obtain ⟨b, bs, rfl, bl, hb⟩ := bk (by decide)
      have bsub : ∀ x ∈ bs.map Prod.fst, x ∈ ns := fun x mx => by
        obtain ⟨q, mq, rfl⟩ := List.mem_map.mp mx
        exact hb.keys q mq
      have lbs : bs.length ≤ ns.length := by
        have := BK.nodup_sub hb.nd bsub
        rw [List.length_map] at this
        exact this
      refine ⟨_, rfl, _, rfl, _, rfl, _, rfl, p, x, D, b, ns, 1 + d, some (rsL bs), scP ns bs, rfl, laJ, L.is laJ, gDJ, g, out_of six, by omega, bk_L bl hb g (by omega), book_L hb, Tabs.but t1 S1 BJ, fun G7 e7 t7 => ⟨true, rfl, iteF ?_⟩⟩
      exact ⟨⟨_, _, _, _, _, _, rfl⟩, SqL.extN (SqL.keepS hS np e1 BJ) e7, t7⟩
  · rintro σ G ⟨⟨s1, s2, s3, s4, s5, s6, rfl⟩, _, _⟩
    rfl
end
end OB
namespace OB
open PySem PySem.Spec PyProof.Rows L2 LamX
/-! ### what is looked at behind the top -/
def gEs (g : Addr → Option Obj) (N : Addr) : List DictEntry := match g N with
  | some ⟨_, _, .dict es _, _⟩ => es.toList
  | _ => []
def inEs (es : List DictEntry) (x : Str) : Option Value := (es.find? fun e => e.key.isStr x).map (·.val)
def refIn (es : List DictEntry) (x : Str) : Addr := match inEs es x with
  | some (.ref a) => a
  | _ => 0
def adr (g : Addr → Option Obj) (x : Str) : Addr := refIn (gEs g mainGlobals) x
def clNs (g : Addr → Option Obj) (C : Addr) : Addr := match g C with
  | some ⟨_, _, .cls cd, _⟩ => cd.ns
  | _ => 0
def fnCd (g : Addr → Option Obj) (f : Addr) : List Addr := match g f with
  | some ⟨_, _, .func fd, _⟩ => (match fd.code with
    | .ref c => [c]
    | _ => []) ++ fd.closure.map (·.2)
  | _ => []
def fnAs (g : Addr → Option Obj) (f : Addr) : List Addr := f :: fnCd g f
def clsAs (g : Addr → Option Obj) (r : Str × List Str) : List Addr := adr g r.1 :: clNs g (adr g r.1) :: r.2.flatMap fun m => fnAs g (refIn (gEs g (clNs g (adr g r.1))) m)
def fns0 : List (Str × Nat) := [("is_integer", 4), ("is_from_one", 5), ("is_list", 6), ("is_name", 7), ("is_word_of", 8), ("unlike_addresses", 9), ("told_names", 18), ("check_land", 20), ("in_order", 24), ("book_told", 25), ("exact_book", 26), ("come_by", 27), ("ring_among", 28), ("arrivals", 29), ("check_address", 30), ("follow", 31), ("ring_of", 32)]
def fns1 : List (Str × Nat) := [("_law_source", 34), ("_law_draw", 35), ("_law_pick", 36), ("_law_mixed", 37), ("_law_same", 38), ("_law_loose", 39), ("_law_land_names", 40), ("_law_reach", 41), ("_law_goes_round", 42), ("_law_follow", 43), ("_law_any_book", 44), ("_law_met", 45), ("_law_is_ring", 46), ("_law_book_right", 47), ("_law_refused_right", 48), ("law", 49)]
def fns : List (Str × Nat) := fns0 ++ fns1
def clss : List (Str × List Str) := [("AddressError", []), ("BadAddresses", ["__init__"]), ("BadMost", ["__init__"]), ("BadLand", ["__init__"]), ("BadBook", ["__init__"]), ("NoAddress", ["__init__"]), ("Land", ["__init__", "__eq__", "addresses", "most"])]
def asK (g : Addr → Option Obj) : List Addr := mainGlobals :: cStatics :: sysModules :: (fns.flatMap (fun p => fnAs g (adr g p.1)) ++ clss.flatMap (clsAs g))
def KO (g : Addr → Option Obj) : PySem.W.Frag := He.frT g (asK g)
/-! ### defs -/
def dFn (p : Str × Nat) : He.FnD := ⟨(p.1, none), p.1, p.1, defArgs (top p.2), defBody (top p.2), defScope (top p.2)⟩
def dMe (c m q : Str) (st : Stmt) : He.FnD := ⟨(c, some m), m, q, defArgs st, defBody st, defScope st⟩
def mes : List He.FnD := [dMe "Land" "__init__" "Land.__init__" (inClass (top 19) 0), dMe "Land" "__eq__" "Land.__eq__" (inClass (top 19) 1), dMe "Land" "addresses" "Land.addresses" (inClass (top 19) 2), dMe "Land" "most" "Land.most" (inClass (top 19) 3)]
def fnD : List He.FnD := fns.map dFn ++ mes
/-! ### facts -/
def frees : List Str := ["isinstance", "int", "bool", "str", "list", "tuple", "len", "all", "abs", "sum", "range", "zip", "set", "dict", "any", "enumerate", "repr", "super", "min"]
def fa0 : List He.Fa := fns.map (fun p => He.Fa.glo p.1) ++ frees.map He.Fa.free
def fa1 : List He.Fa := [.glo "BadAddresses", .glo "BadMost", .glo "BadLand", .glo "BadBook", .glo "NoAddress", .glo "AddressError", .glo "Land", .str "LETTERS" letters, .str "FIGURES" figures, .int "LONGEST_NAME" 8, .int "FEWEST" 2, .cls "Land", .noat "Land" "_names", .noat "Land" "_most", .meth "Land" "__init__", .meth "Land" "__eq__", .meth "Land" "addresses", .meth "Land" "most", .mkr "Land", .noat "BadAddresses" "index", .noat "BadMost" "most", .noat "BadLand" "thing", .noat "BadBook" "book", .noat "NoAddress" "address", .exm "BadLand" "BadLand" true, .exm "BadBook" "BadLand" false, .exm "BadBook" "BadBook" true, .exm "NoAddress" "BadLand" false, .exm "NoAddress" "BadBook" false, .exm "NoAddress" "NoAddress" true]
def fa2 : List He.Fa := fns.map fun p => He.Fa.keep p.1
def faA : List He.Fa := fa0 ++ (fa1 ++ fa2)
/-- an own class, as isinstance and == see it -/
def ownB (K : PySem.W.Frag) (C : Addr) : Bool := He.eqO (PySem.W.findIn K (.ref C) "__class__") (some (some (.builtin "object.__class__"))) && (He.eqO (PySem.W.specialIn K (.builtin "object.__class__") "__get__") (some (some (.builtin "getset_descriptor.__get__"))) &&
  (decide (PySem.W.takesIn K (.builtin "object.__class__") = some true) && (decide (PySem.W.mroIn K C (.type "object") = some true) && (["int", "bool", "str", "list", "tuple", "dict"].all fun T => decide (PySem.W.kitOne K (.ref C) (.type T) = some false)))))
def fiveT : List String := ["NoneType", "int", "list", "dict", "function"]
def landB (K : PySem.W.Frag) (C : Addr) : Bool := (fiveT.all fun T => PySem.W.notFirst K C (.type T)) && (PySem.W.notFirst K C (.ref C) && (decide (PySem.W.kitOne K (.ref C) (.ref C) = some true) && (He.eqO (PySem.W.findIn K (.ref C) "__ne__") (some (some (.builtin "object.__ne__"))) &&
  (decide (PySem.W.subIn K (.ref C) (.type "object") = some true) && (fiveT.all fun T => decide (PySem.W.kitOne K (.type T) (.ref C) = some false))))))
def errT : List Value := [.type "ValueError", .type "Exception", .type "BaseException", .type "object"]
def newIs (sl : List (Option Value)) : Bool := match sl with
  | [_, _, _, _, some (.builtin n), _] => n == "ValueError.__new__"
  | _ => false
def errShape (K : PySem.W.Frag) (C cE : Addr) : Bool := match K.lookup C with
  | some ⟨.type "type", _, .cls cd, sl⟩ => decide (cd.mro = .ref C :: .ref cE :: errT) && (cd.hasDict && (!cd.hasDel && newIs sl.toList))
  | _ => false
def fileIs (K : PySem.W.Frag) (file : Str) (cda : Addr) : Bool := match K.lookup cda with
  | some ⟨_, _, .fields vs, _⟩ => (match (vs[2]? : Option Value) with
    | some (.str z _) => file == z
    | _ => false)
  | _ => false
def cellIs (K : PySem.W.Frag) (C : Addr) (cl : List (Str × Addr)) : Bool := match cl with
  | [(_, cc)] => (match K.lookup cc with
    | some ⟨_, _, .cell (some (.ref C')), _⟩ => C' == C
    | _ => false)
  | _ => false
def initShape (K : PySem.W.Frag) (file : Str) (C f : Addr) : Bool := match K.lookup f with
  | some ⟨_, _, .func fd, _⟩ => (match fd.code with
      | .ref cda => PySem.W.codeIn K (.ref cda) fd.qualname && fileIs K file cda
      | _ => false) && cellIs K C fd.closure
  | _ => false
abbrev InV : Type := Option (Str × Arguments × FuncBody × Scope × Addr × List Str × Value × Value × Addr)
def initO (K : PySem.W.Frag) (f : Addr) : InV := match K.lookup f with
  | some ⟨_, _, .func fd, _⟩ => some (fd.name, fd.params, fd.body, fd.scope, fd.globals, fd.closure.map (·.1), fd.defaults, fd.kwdefaults, fd.builtins)
  | _ => none
def initV (st : Stmt) : InV := some ("__init__", defArgs st, .stmts (defBody st), defScope st, mainGlobals, ["__class__"], .none, .none, builtinsNs)
def errB (K : PySem.W.Frag) (file x : Str) : Bool := errShape K (He.ga K x) (He.ga K "AddressError") && (PySem.W.keepIn K (.ref (He.ga K x)) && (He.eqO (PySem.W.findIn K (.ref (He.ga K x)) "__setattr__") (some (some (.builtin "object.__setattr__"))) &&
  (He.eqO (PySem.W.findIn K (.ref (He.ga K x)) "__init__") (some (some (.ref (He.ma K (He.ga K x) "__init__")))) && (decide (PySem.W.typeIn K (.ref (He.ma K (He.ga K x) "__init__")) = some (.type "function")) && (He.eqO (PySem.W.ks_superIn K (He.ga K x) (He.ga K x) "__init__") (some (some (.builtin "ValueError.__init__"))) &&
  (PySem.W.excInitIn K (He.ga K x) errT "ValueError.__new__" && (xfB K (He.ga K x) && (initShape K file (He.ga K x) (He.ma K (He.ga K x) "__init__") && (decide (PySem.W.mroIn K (He.ga K x) (.ref (He.ga K x)) = some true) && (decide (PySem.W.subIn K (.ref (He.ga K x)) (.type "ValueError") = some true) &&
  (decide (PySem.W.subIn K (.ref (He.ga K x)) (.type "BaseException") = some true) && decide (PySem.W.typeIn K (.ref (He.ga K x)) = some (.type "type")))))))))))))
def hasB (K : PySem.W.Frag) (a : Addr) : Bool := match K.lookup a with
  | some _ => true
  | none => false
def clsIs (K : PySem.W.Frag) (a : Addr) : Bool := match K.lookup a with
  | some ⟨.type c, _, _, _⟩ => decide (c = "function")
  | _ => false
def tfs : List He.Defn := [("_law_refused_right", none)]
def file : Str := "/claim/cut.py"
def exB (K : PySem.W.Frag) : Bool := (ownB K (He.ga K "Land") && (landB K (He.ga K "Land") && (errB K file "BadAddresses" && (errB K file "BadMost" && (errB K file "BadLand" && (errB K file "BadBook" && (errB K file "NoAddress" && (He.eqO (PySem.W.nsIn K cStatics "thirdparty.any") (some none) && hasB K sysModules))))))))
def inits : List (Str × Stmt) := [("BadAddresses", inClass (top 12) 0), ("BadMost", inClass (top 13) 0), ("BadLand", inClass (top 14) 0), ("BadBook", inClass (top 22) 0), ("NoAddress", inClass (top 15) 0)]
/-! ### the looks -/
abbrev LA : Type := List He.FnV
abbrev LB : Type := Bool
abbrev LC : Type := List InV
def lkA (g : Addr → Option Obj) : LA := fnD.map fun d => He.fnObs (KO g) d.at_
def lkB (g : Addr → Option Obj) : LB := (faA.all fun f => f.ok (KO g)) && fnD.all fun d => (He.Fa.code d.at_ d.qual).ok (KO g)
def lkC (g : Addr → Option Obj) : LC := inits.map fun p => initO (KO g) (He.ma (KO g) (He.ga (KO g) p.1) "__init__")
def lkD (g : Addr → Option Obj) : LB := exB (KO g) && He.tabsB g tfs (KO g)
def vA : LA := fnD.map He.FnD.val
def vC : LC := inits.map fun p => initV p.2
end OB
namespace OB
open PySem PySem.Spec PyProof.Rows L2 LamX
/-! ### what the looks say -/
structure SaysK (w : World) (h : Heap) (K : PySem.W.Frag) : Prop where
  A : (fnD.map fun d => He.fnObs K d.at_) = vA
  B : ((faA.all fun f => f.ok K) && fnD.all fun d => (He.Fa.code d.at_ d.qual).ok K) = true
  C : (inits.map fun p => initO K (He.ma K (He.ga K p.1) "__init__")) = vC
  D : exB K = true
  hd : ∀ p ∈ tfs, PySem.W.codeHdIn K (He.cT K p).1 (He.cT K p).2 = true
  out : ∀ p ∈ tfs, K.lookup (He.cT K p).2 = none
  empty : ∀ p ∈ tfs, h.get? (He.cT K p).2 = some { cls := .none, data := .fields #[] }
theorem SaysK.keeps {w : World} {h h' : Heap} {K : PySem.W.Frag} (s : SaysK w h K) (k : ∀ b o, h.get? b = some o → h'.get? b = some o) : SaysK w h' K := ⟨s.A, s.B, s.C, s.D, s.hd, s.out, fun p m => k _ _ (s.empty p m)⟩
abbrev LookT : Type := LA × (LB × (LC × LB))
def lk (g : Addr → Option Obj) : LookT := (lkA g, (lkB g, (lkC g, lkD g)))
def vl (w : World) : LookT := (vA, (true, (vC, true)))
theorem says_of {w : World} {h : Heap} (e : lk h.get? = vl w) : ∃ K : PySem.W.Frag, K.In h ∧ SaysK w h K := by
  refine ⟨KO h.get?, He.frT_in, ?_⟩
  have eA : lkA h.get? = vA := congrArg (fun z : LookT => z.1) e
  have eB : lkB h.get? = true := congrArg (fun z : LookT => z.2.1) e
  have eC : lkC h.get? = vC := congrArg (fun z : LookT => z.2.2.1) e
  have eD : lkD h.get? = true := congrArg (fun z : LookT => z.2.2.2) e
  obtain ⟨d1, d2⟩ := Bool.and_eq_true_iff.mp (show (exB (KO h.get?) && He.tabsB h.get? tfs (KO h.get?)) = true from eD)
  have key : ∀ p ∈ tfs, PySem.W.codeHdIn (KO h.get?) (He.cT (KO h.get?) p).1 (He.cT (KO h.get?) p).2 = true ∧ ∃ o, h.get? (He.cT (KO h.get?) p).2 = some o ∧ He.emptyTab o = true := fun p hp => by
    obtain ⟨h3, h4⟩ := Bool.and_eq_true_iff.mp (List.all_eq_true.mp (show (tfs.all fun p => PySem.W.codeHdIn (KO h.get?) (He.cT (KO h.get?) p).1 (He.cT (KO h.get?) p).2 && (match h.get? (He.cT (KO h.get?) p).2 with
      | some o => He.emptyTab o
      | none => false)) = true from d2) p hp)
    refine ⟨h3, ?_⟩
    cases q : h.get? (He.cT (KO h.get?) p).2 with
    | none =>
      rw [q] at h4
      cases h4
    | some o =>
      rw [q] at h4
      exact ⟨o, rfl, h4⟩
  refine ⟨eA, eB, eC, d1, fun p m => (key p m).1, fun p m => ?_, fun p m => ?_⟩
  · obtain ⟨_, o, q, z⟩ := key p m
    exact He.frT_none q z
  · obtain ⟨_, o, q, z⟩ := key p m
    rw [q, He.emptyTab_eq z]
section
variable {w : World} {h : Heap} {K : PySem.W.Frag} {mg : Str → Option Value} {base : Heap}
theorem SaysK.fact (s : SaysK w h K) {f : He.Fa} (m : f ∈ faA) : f.ok K = true := List.all_eq_true.mp (Bool.and_eq_true_iff.mp s.B).1 f m
theorem SaysK.def_ (s : SaysK w h K) {d : He.FnD} (m : d ∈ fnD) : ∃ oc od osl kV doc pm an cdv ct, K.lookup (He.fAd K d.at_) = some ⟨oc, od, .func (PySem.W.fnOf d.name d.qual d.params d.body d.scope .none kV doc pm an cdv ct), osl⟩ ∧ PySem.W.codeIn K cdv d.qual = true := by
  obtain ⟨i, hi, e⟩ := List.mem_iff_getElem.mp m
  have e2 : (fnD.map fun d => He.fnObs K d.at_)[i]? = (fnD.map He.FnD.val)[i]? := by rw [s.A] <;> rfl
  rw [List.getElem?_map, List.getElem?_map, List.getElem?_eq_getElem hi, e] at e2
  exact He.fn_ok (Option.some.inj e2) (List.all_eq_true.mp (Bool.and_eq_true_iff.mp s.B).2 d m)
theorem mem_fa0 {p : Str × Nat} (m : p ∈ fns) : He.Fa.glo p.1 ∈ faA := List.mem_append_left _ (List.mem_append_left _ (List.mem_map.mpr ⟨p, m, rfl⟩))
theorem mem_free {x : Str} (m : x ∈ frees) : He.Fa.free x ∈ faA := List.mem_append_left _ (List.mem_append_right _ (List.mem_map.mpr ⟨x, m, rfl⟩))
theorem mem_fa1 {f : He.Fa} (m : f ∈ fa1) : f ∈ faA := List.mem_append_right _ (List.mem_append_left _ m)
theorem mem_fa2 {p : Str × Nat} (m : p ∈ fns) : He.Fa.keep p.1 ∈ faA := List.mem_append_right _ (List.mem_append_right _ (List.mem_map.mpr ⟨p, m, rfl⟩))
/-- a def of the top -/
theorem SaysK.fn (s : SaysK w h K) (X : K.In base) (G : base.Ns mainGlobals mg) {x : Str} {i : Nat} (m : (x, i) ∈ fns) : mg x = some (.ref (He.ga K x)) ∧ ∃ fd, Fun K x x (top i) (He.ga K x) fd := by
  refine ⟨He.glo_ok X G (s.fact (mem_fa0 m)), ?_⟩
  obtain ⟨oc, od, osl, kV, doc, pm, an, cdv, ct, lk, hc⟩ := s.def_ (d := dFn (x, i)) (List.mem_append_left _ (List.mem_map.mpr ⟨_, m, rfl⟩))
  exact ⟨_, ⟨oc, od, kV, doc, pm, an, cdv, ct, osl, rfl, lk, hc⟩, s.fact (mem_fa2 m)⟩
theorem SaysK.free (s : SaysK w h K) (X : K.In base) (G : base.Ns mainGlobals mg) {x : Str} (m : x ∈ frees) : mg x = none := He.free_ok X G (s.fact (mem_free m))
end
end OB
namespace OB
open PySem PySem.Spec PyProof.Rows L2 LamX
/-! ### the two errors -/
theorem shape_ok {K : PySem.W.Frag} {C cE : Addr} (c : errShape K C cE = true) : ∃ nm q N bs sn sub ab col dd k0 k1 k2 k3 k5, K.lookup C = some (excClassObj nm q C N bs (.ref cE :: errT) true sn sub ab col dd k0 k1 k2 k3 k5 "ValueError.__new__") := by
  unfold errShape at c
  split at c
  · rename_i dd cd sl e
    simp only [Bool.and_eq_true, Bool.not_eq_true', decide_eq_true_eq] at c
    obtain ⟨c1, c2, c3, c4⟩ := c
    obtain ⟨nm, bs, mro, ns, qn, hd, sn, sb, ab, col, del⟩ := cd
    dsimp only at c1 c2 c3
    subst c1 c2 c3
    unfold newIs at c4
    split at c4
    · rename_i k0 k1 k2 k3 n k5 hs
      have en : n = "ValueError.__new__" := beq_iff_eq.mp c4
      subst en
      have hsl : sl = #[k0, k1, k2, k3, some (.builtin "ValueError.__new__"), k5] := by
        obtain ⟨l⟩ := sl
        simp only at hs
        rw [hs]
      subst hsl
      exact ⟨nm, qn, ns, bs, sn, sb, ab, col, dd, k0, k1, k2, k3, k5, e⟩
    · cases c4
  · cases c
structure ErrC (K : PySem.W.Frag) (x : Str) : Prop where
  shape : errShape K (He.ga K x) (He.ga K "AddressError") = true
  keep : PySem.W.keepIn K (.ref (He.ga K x)) = true
  sa : PySem.W.findIn K (.ref (He.ga K x)) "__setattr__" = some (some (.builtin "object.__setattr__"))
  iC : PySem.W.findIn K (.ref (He.ga K x)) "__init__" = some (some (.ref (He.ma K (He.ga K x) "__init__")))
  tC : PySem.W.typeIn K (.ref (He.ma K (He.ga K x) "__init__")) = some (.type "function")
  sup : PySem.W.ks_superIn K (He.ga K x) (He.ga K x) "__init__" = some (some (.builtin "ValueError.__init__"))
  exI : PySem.W.excInitIn K (He.ga K x) errT "ValueError.__new__" = true
  xf : XfC K (He.ga K x)
  ini : initShape K file (He.ga K x) (He.ma K (He.ga K x) "__init__") = true
  sub : PySem.W.mroIn K (He.ga K x) (.ref (He.ga K x)) = some true
  subV : PySem.W.subIn K (.ref (He.ga K x)) (.type "ValueError") = some true
  subB : PySem.W.subIn K (.ref (He.ga K x)) (.type "BaseException") = some true
  ty : PySem.W.typeIn K (.ref (He.ga K x)) = some (.type "type")
theorem errC_of {K : PySem.W.Frag} {x : Str} (e : errB K file x = true) : ErrC K x := by
  unfold errB at e
  simp only [Bool.and_eq_true, decide_eq_true_eq] at e
  obtain ⟨e1, e2, e3, e4, e5, e6, e7, e8, e9, e10, e11, e12, e13⟩ := e
  exact ⟨e1, e2, He.eqO_ok e3, He.eqO_ok e4, e5, He.eqO_ok e6, e7, xfB_ok e8, e9, e10, e11, e12, e13⟩
def IsInit (f : Str) (st : Stmt) : Prop := ∃ p1 p2 tx a b c d e e' g h i j, defArgs st = OE.eA f p1 p2 ∧ defBody st = [OE.eB0 tx a b c d e e', OE.eB1 f g h i j] ∧ defScope st = OE.eS f ∧ (c.endLine == e.line) = true
theorem iniBadAddresses : IsInit "index" (inClass (top 12) 0) := ⟨_, _, _, _, _, _, _, _, _, _, _, _, _, rfl, rfl, rfl, rfl⟩
theorem iniBadMost : IsInit "most" (inClass (top 13) 0) := ⟨_, _, _, _, _, _, _, _, _, _, _, _, _, rfl, rfl, rfl, rfl⟩
theorem iniBadLand : IsInit "thing" (inClass (top 14) 0) := ⟨_, _, _, _, _, _, _, _, _, _, _, _, _, rfl, rfl, rfl, rfl⟩
theorem iniBadBook : IsInit "book" (inClass (top 22) 0) := ⟨_, _, _, _, _, _, _, _, _, _, _, _, _, rfl, rfl, rfl, rfl⟩
theorem iniNoAddress : IsInit "address" (inClass (top 15) 0) := ⟨_, _, _, _, _, _, _, _, _, _, _, _, _, rfl, rfl, rfl, rfl⟩
theorem bdsBadAddresses : OE.Bds "index" := fun fd h1 h2 h3 x u => by
  obtain ⟨n1, n2, ps, b, s, c, d1, d2, g⟩ := fd
  obtain ⟨p1, p2, h1⟩ := h1
  dsimp only at h1 h2 h3
  subst h1 h2 h3
  exact ⟨rfl, rfl⟩
theorem bdsBadMost : OE.Bds "most" := fun fd h1 h2 h3 x u => by
  obtain ⟨n1, n2, ps, b, s, c, d1, d2, g⟩ := fd
  obtain ⟨p1, p2, h1⟩ := h1
  dsimp only at h1 h2 h3
  subst h1 h2 h3
  exact ⟨rfl, rfl⟩
theorem bdsBadLand : OE.Bds "thing" := fun fd h1 h2 h3 x u => by
  obtain ⟨n1, n2, ps, b, s, c, d1, d2, g⟩ := fd
  obtain ⟨p1, p2, h1⟩ := h1
  dsimp only at h1 h2 h3
  subst h1 h2 h3
  exact ⟨rfl, rfl⟩
theorem bdsBadBook : OE.Bds "book" := fun fd h1 h2 h3 x u => by
  obtain ⟨n1, n2, ps, b, s, c, d1, d2, g⟩ := fd
  obtain ⟨p1, p2, h1⟩ := h1
  dsimp only at h1 h2 h3
  subst h1 h2 h3
  exact ⟨rfl, rfl⟩
theorem bdsNoAddress : OE.Bds "address" := fun fd h1 h2 h3 x u => by
  obtain ⟨n1, n2, ps, b, s, c, d1, d2, g⟩ := fd
  obtain ⟨p1, p2, h1⟩ := h1
  dsimp only at h1 h2 h3
  subst h1 h2 h3
  exact ⟨rfl, rfl⟩
theorem init_of {P : Program} {K : PySem.W.Frag} {x : Str} {st : Stmt} (hf : file = P.main.file) (c : ErrC K x) (o : initO K (He.ma K (He.ga K x) "__init__") = initV st) :
    ∃ (oc : Value) (od : Option Addr) (doc pm : Value) (an : Option Addr) (ct : Value) (osl : Array (Option Value)) (qual : Str) (cc cda : Addr) (vs : Array Value) (fl : Str) (tf : Tok) (ccl cl : Value) (cdd cld : Option Addr) (ccs csl : Array (Option Value)),
    K.lookup (He.ma K (He.ga K x) "__init__") = some ⟨oc, od, .func (PySem.W.fnX "__init__" qual (defArgs st) (defBody st) (defScope st) [("__class__", cc)] .none .none doc pm an (.ref cda) ct), osl⟩ ∧ PySem.W.codeIn K (.ref cda) qual = true ∧
    K.lookup cda = some ⟨ccl, cdd, .fields vs, ccs⟩ ∧ vs[2]? = some (.str fl tf) ∧ ((P.main.file : Str) == fl) = true ∧ K.lookup cc = some ⟨cl, cld, .cell (some (.ref (He.ga K x))), csl⟩ := by
  have h := c.ini
  unfold initShape at h
  unfold initO at o
  cases e : K.lookup (He.ma K (He.ga K x) "__init__") with
  | none =>
    rw [e] at h
    cases h
  | some ob =>
    obtain ⟨oc, od, dt, osl⟩ := ob
    rw [e] at h o
    cases dt with
    | func fd =>
      obtain ⟨n1, n2, n3, n4, n5, n6, n7, n8, n9, n10, n11, n12, n13, n14, n15⟩ := fd
      dsimp only at h o
      simp only [Bool.and_eq_true] at h
      obtain ⟨h1, h2⟩ := h
      have o2 : (some (n1, n3, n4, n5, n6, n7.map (·.1), n8, n9, n15) : InV) = initV st := o
      unfold initV at o2
      simp only [Option.some.injEq, Prod.mk.injEq] at o2
      obtain ⟨o1, o2, o3, o4, o5, o6, o7, o8, o9⟩ := o2
      subst o1 o2 o3 o4 o5 o7 o8 o9
      unfold cellIs at h2
      split at h2
      · rename_i y cc
        split at h2
        · rename_i cl cld C' csl ec
          have eC : C' = He.ga K x := beq_iff_eq.mp h2
          subst eC
          have ex : y = ("__class__" : Str) := by simpa using o6
          subst ex
          split at h1
          · rename_i cda
            simp only [Bool.and_eq_true] at h1
            obtain ⟨g1, g2⟩ := h1
            unfold fileIs at g2
            split at g2
            · rename_i ccl cdd vs ccs ek
              split at g2
              · rename_i fl tf ev
                exact ⟨oc, od, n10, n11, n12, n14, osl, n2, cc, cda, vs, fl, tf, ccl, cl, cdd, cld, ccs, csl, rfl, g1, ek, ev, by rw [← hf]; exact g2, ec⟩
              · cases g2
            · cases g2
          · cases h1
        · cases h2
      · cases h2
    | _ => cases h
theorem errK_of {P : Program} {K : PySem.W.Frag} {mg : Str → Option Value} {x f : Str} {st : Stmt} (hf : file = P.main.file) (c : ErrC K x) (o : initO K (He.ma K (He.ga K x) "__init__") = initV st) (I : IsInit f st) (B : OE.Bds f) (nof : PySem.W.findIn K (.ref (He.ga K x)) f = some none)
    (opq : PySem.W.nsIn K cStatics "thirdparty.any" = some none) (spr : PySem.W.nsIn K mainGlobals "super" = some none) (g : mg x = some (.ref (He.ga K x))) (fok : (f == ("self" : Str)) = false ∧ (f == ("__class__" : Str)) = false ∧ (f == ("super" : Str)) = false ∧ (f == ("__debug__" : Str)) = false) :
    ErrK P K mg x (He.ga K x) (He.ma K (He.ga K x) "__init__") f := by
  obtain ⟨oc, od, doc, pm, an, ct, osl, qual, cc, cda, vs, fl, tf, ccl, cl, cdd, cld, ccs, csl, k1, k2, k3, k4, k5, k6⟩ := init_of (P := P) hf c o
  obtain ⟨nm, q, N, bs, sn, sub, ab, col, dd, m0, m1, m2, m3, m5, hC⟩ := shape_ok c.shape
  have rv : PySem.HandSPX.refsVE (.ref (He.ga K "AddressError") :: errT) = true := by
    show PySem.HandSPX.refsVE errT = true
    decide +kernel
  obtain ⟨p1, p2, tx, a, b, c', d, e0, e', g', h', i', j', i1, i2, i3, i4⟩ := I
  rw [i1, i2, i3] at k1
  exact ⟨⟨⟨nm, q, N, bs, _, sn, sub, ab, col, dd, m0, m1, m2, m3, m5, hC, rv⟩, c.sa, nof, c.iC, c.tC, c.sup, c.sub, c.exI, c.subV, opq, spr, ⟨oc, od, doc, pm, an, ct, osl, p1, p2, tx, a, b, c', d, e0, e', g', h', i', j', qual, cc, cda, vs, fl, tf, ccl, cl, cdd, cld, ccs, csl, k1, k2, i4, k3, k4, k5, k6⟩, fok⟩, B, g, c.keep, c.subB, c.ty⟩
/-! ### the classes that are made -/
theorem ownC_of {K : PySem.W.Frag} {C : Addr} (cl : Cls K C) (h : ownB K C = true) : OwnC K C := by
  unfold ownB at h
  simp only [Bool.and_eq_true, decide_eq_true_eq, List.all_eq_true] at h
  obtain ⟨h1, h2, h3, h4, h5⟩ := h
  exact ⟨cl, He.eqO_ok h1, He.eqO_ok h2, h3, h4, h5⟩
theorem landB_of {K : PySem.W.Frag} {C fE : Addr} (o : OwnC K C) (m : Meth K C "__eq__" fE) (h : landB K C = true) : LandE K C fE ∧ ∀ T ∈ ["NoneType", "list"], PySem.W.kitOne K (.type T) (.ref C) = some false := by
  unfold landB at h
  simp only [Bool.and_eq_true, decide_eq_true_eq, List.all_eq_true] at h
  obtain ⟨h1, h2, h3, h4, h5, h6⟩ := h
  exact ⟨⟨o, m.at_, m.fn, h2, h3⟩, fun T m => h6 T (by
    rcases List.mem_cons.mp m with rfl | m
    · simp [fiveT]
    · rw [List.mem_singleton.mp m]
      simp [fiveT])⟩
end OB
namespace OB
open PySem PySem.Spec PyProof.Rows L2 LamX
/-! ### the law called by the outermost caller: the script and the tables are ours -/
def tab0 : Obj := { cls := .none, data := .fields #[] }
theorem data_ne {o o' : Obj} (h : o.data ≠ o'.data) : o ≠ o' := fun z => h (congrArg Obj.data z)
theorem law_at {P : Program} {w : World} {K : PySem.W.Frag} {mg mb : Str → Option Value} {fa a : Addr} {cs : List (Addr × Addr)} {s₁ : Shared} {vs : List Value} {ns : List Int}
    (KX : K.In s₁.heap) (nG : s₁.heap.Ns mainGlobals mg) (nB : s₁.heap.Ns builtinsNs mb) (hB : ∀ x : Str, x ≠ "__name__" → mb x = bootBuiltins x) (lim : s₁.heap.NoLimit) (ge : s₁.gens = #[])
    (tT : ∀ p ∈ cs, s₁.heap.get? p.2 = some tab0) (tK : ∀ p ∈ cs, K.lookup p.2 = none) (tC : ∀ p ∈ cs, PySem.W.CodeHd s₁.heap p.1 p.2)
    (bm : ∃ (m : Addr) (ob : Obj), mg "__builtins__" = some (.ref m) ∧ m ≠ builtinsNs ∧ s₁.heap.get? m = some ob ∧ ob.cls = .type "module" ∧ ob.dict = some builtinsNs ∧ ob.data = .plain)
    (ga : s₁.heap.get? a = some { cls := .type "list", data := .seq vs.toArray }) (iv : IntsAre vs ns) (hl : ns.length ≤ sizeLine)
    (run : ∀ (base : Heap) (H : Hp), K.In base → base.Ns mainGlobals mg → (∀ p ∈ cs, TabB base mg p.1 p.2) → (∀ p ∈ cs, H p.2 = some (.tbl #[])) → SqL K H a (ns.map V.int) → Env0 P w K mg base callerA [] s₁ H →
      codeAny (model P w) callerA (.call (.ref fa) ⟨[.ref a], []⟩) (CR CX0 [] P w H s₁ (fun v _ => v = .bl true) (fun _ _ _ => False)) s₁) :
    codeAny (model P w) callerA (.call (.ref fa) ⟨[.ref a], []⟩) (fun r s' => r = .ok (.ret (.bool true)) ∧ OldK s₁.heap s'.heap ∧ s'.os = s₁.os ∧ AllBare s'.gens) s₁ := by
  have rv := vals_ints iv
  have lv := iv.length
  -- what is hidden
  let own : Prop := K.lookup a = none
  let tb := cs.map (·.2)
  have inT : ∀ p ∈ cs, p.2 ∈ tb := fun p m => List.mem_map.mpr ⟨p, m, rfl⟩
  have ofT : ∀ b ∈ tb, s₁.heap.get? b = some tab0 ∧ K.lookup b = none := fun b m => by
    obtain ⟨p, mp, e⟩ := List.mem_map.mp m
    rw [← e]
    exact ⟨tT p mp, tK p mp⟩
  have aT : a ∉ tb := fun z => by
    have q := (ofT a z).1
    rw [ga] at q
    exact data_ne (fun y => by cases y) (Option.some.inj q)
  have main : ∀ (hid : List Addr) (H : Hp), (∀ b, H b ≠ none ↔ b ∈ hid) → (∀ b ∈ hid, b = a ∨ b ∈ tb) → (∀ b ∈ hid, K.lookup b = none) → (∀ p ∈ cs, H p.2 = some (.tbl #[])) → (∀ b, H b = none ∨ (b ∈ tb ∧ H b = some (.tbl #[])) ∨ (b ∉ tb ∧ ∃ o xs, H b = some (.frz o (.lst xs)))) →
      SqL K H a (ns.map V.int) → HOk P w H s₁.heap → codeAny (model P w) callerA (.call (.ref fa) ⟨[.ref a], []⟩) (fun r s' => r = .ok (.ret (.bool true)) ∧ OldK s₁.heap s'.heap ∧ s'.os = s₁.os ∧ AllBare s'.gens) s₁ := by
    intro hid H hH hab hKn hTb hAll hS hok
    have get : ∀ {b : Addr} {o : Obj}, s₁.heap.get? b = some o → b ∉ hid → (PySem.W.hideAll s₁.heap hid).get? b = some o := fun e n => PySem.W.hideAll_get _ e n
    have other : ∀ {b : Addr} {o : Obj}, s₁.heap.get? b = some o → (∀ x n, o.data ≠ .seq x n) → o.data ≠ .fields #[] → b ∉ hid := fun {b o} e n1 n2 m => by
      rcases hab b m with z | z
      · rw [z, ga] at e
        cases e
        exact n1 _ _ rfl
      · rw [(ofT b z).1] at e
        cases e
        exact n2 rfl
    have nsH : ∀ {b : Addr} {m : Str → Option Value}, s₁.heap.Ns b m → (PySem.W.hideAll s₁.heap hid).Ns b m := fun {b m} ⟨o, es, ep, e, d, r⟩ => ⟨o, es, ep, get e (other e (fun x n z => by rw [d] at z; cases z) (fun z => by rw [d] at z; cases z)), d, r⟩
    have KB : K.In (PySem.W.hideAll s₁.heap hid) := fun b o e => get (KX b o e) fun m => by
      rw [hKn b m] at e
      cases e
    have M : L2.Mod K mg (PySem.W.hideAll s₁.heap hid) := ⟨KB, nsH nG, ⟨mb, nsH nB, hB⟩, let ⟨mc, h1, h2⟩ := lim; ⟨mc, nsH h1, h2⟩⟩
    have TB : ∀ p ∈ cs, TabB (PySem.W.hideAll s₁.heap hid) mg p.1 p.2 := fun p mp => by
      refine ⟨?_, ?_, fun z => ?_⟩
      · obtain ⟨o, us, f1, f2, f3, f4, f5, f6, f7, e1, r1, r2, r3, rest⟩ := tC p mp
        refine ⟨o, us, f1, f2, f3, f4, f5, f6, f7, get e1 (other e1 (fun x n z => ?_) fun z => ?_), r1, r2, r3, rest⟩
        · rw [r2] at z
          cases z
        · rw [r2] at z
          have y := Data.fields.inj z
          rw [y] at r3
          simp at r3
      · obtain ⟨m, ob, c1, c2, c3, c4, c5, c6⟩ := bm
        have n1 : m ≠ mainGlobals := fun q => by
          obtain ⟨o, es, ep, e, d, _⟩ := nG
          rw [q, e] at c3
          cases c3
          rw [d] at c6
          cases c6
        have n2 : m ≠ p.2 := fun q => by
          rw [q, tT p mp] at c3
          cases c3
          cases c6
        exact ⟨m, ob, c1, c2, n1, n2, get c3 (other c3 (fun x n z => by rw [c6] at z; cases z) (fun z => by rw [c6] at z; cases z)), c4, c5, c6⟩
      · obtain ⟨o, es, ep, e, d, _⟩ := nG
        rw [z, tT p mp] at e
        cases e
        cases d
    have hN : ∀ b o, (PySem.W.hideAll s₁.heap hid).get? b = some o → s₁.heap.get? b = some o ∧ H b = none := fun b o e => by
      refine ⟨PySem.W.of_hideAll _ e, ?_⟩
      cases q : H b with
      | none => rfl
      | some u =>
        have m : b ∈ hid := (hH b).mp (by rw [q]; simp)
        rw [PySem.W.hideAll_none _ m] at e
        cases e
    have e0 : Env0 P w K mg (PySem.W.hideAll s₁.heap hid) callerA [] s₁ H := ⟨rfl, M, hN, Nat.le_of_eq (PySem.W.hideAll_size _ _), trivial, fun b hb => absurd (show b ∈ ([] : List Addr) from hb) (by simp), hok, .of_eq ge⟩
    refine codeAny_mono (run _ H KB (nsH nG) TB hTb hS e0) fun r s' z => ?_
    cases r with
    | error e => exact (show False from z).elim
    | ok fl =>
      cases fl with
      | next => exact False.elim z
      | brk => exact False.elim z
      | cont => exact False.elim z
      | ret u =>
        obtain ⟨v, H', os, bare, un, hok', rr, q⟩ := z
        have q' : v = .bl true := q
        subst q'
        obtain rfl : u = Value.bool true := rr
        have stays : ∀ b o, b ∉ tb → s₁.heap.get? b = some o → s'.heap.get? b = some o := fun b o nb e => by
          rcases hAll b with y | y | ⟨_, ob, xs, y⟩
          · exact un.keep b o e y (fun z => absurd (show b ∈ ([] : List Addr) from z) (by simp)) (by simp)
          · exact absurd y.1 nb
          · obtain ⟨d1, _⟩ := hok b _ y
            obtain ⟨d2, _⟩ := hok' b _ (un.frzs b ob _ y)
            rw [e] at d1
            cases d1
            exact d2
        have grow : ∀ p ∈ cs, ∃ more : Array Value, s'.heap.get? p.2 = some { cls := .none, data := .fields more } := fun p mp => by
          obtain ⟨more, y⟩ := un.tbls p.2 #[] (hTb p mp)
          exact ⟨_, hok' p.2 _ y⟩
        refine ⟨rfl, ⟨fun b o e => ?_, fun b o e => ?_⟩, os, bare⟩
        · by_cases hb : b ∈ tb
          · obtain ⟨p, mp, ep⟩ := List.mem_map.mp hb
            obtain ⟨more, gm⟩ := grow p mp
            rw [← ep] at e ⊢
            rw [tT p mp] at e
            cases e
            exact .inr (.inl ⟨((tC p mp).tab (tT p mp)).isCodeTable, rfl, #[], more, rfl, by rw [Array.empty_append]; exact gm⟩)
          · exact .inl (stays b o hb e)
        · by_cases hb : b ∈ tb
          · obtain ⟨p, mp, ep⟩ := List.mem_map.mp hb
            obtain ⟨more, gm⟩ := grow p mp
            rw [← ep]
            exact ⟨_, gm⟩
          · exact ⟨o, stays b o hb e⟩
  cases hk : K.lookup a with
  | some o =>
    have e := KX a o hk
    rw [ga] at e
    cases e
    refine main tb (fun b => if b ∈ tb then some (.tbl #[]) else none) (fun b => ?_) (fun b m => .inr m) (fun b m => (ofT b m).2) (fun p mp => if_pos (inT p mp)) (fun b => ?_) (.inr ⟨_, vs.toArray, _, hk, rfl, rfl, rfl, by rw [List.size_toArray, lv]; exact hl, by simpa using rv⟩) (fun b u z => ?_)
    · by_cases hb : b ∈ tb <;> simp [hb]
    · by_cases hb : b ∈ tb
      · exact .inr (.inl ⟨hb, if_pos hb⟩)
      · exact .inl (if_neg hb)
    · by_cases hb : b ∈ tb
      · have y := (if_pos hb).symm.trans z
        cases y
        exact (ofT b hb).1
      · have y := (if_neg hb).symm.trans z
        cases y
  | none =>
    refine main (a :: tb) (fun b => if b = a then some (.frz { cls := .type "list", data := .seq vs.toArray } (.lst (ns.map V.int))) else if b ∈ tb then some (.tbl #[]) else none) (fun b => ?_) (fun b m => ?_) (fun b m => ?_) (fun p mp => ?_) (fun b => ?_) (.inl (.inr ⟨_, if_pos rfl⟩)) (fun b u z => ?_)
    · by_cases h1 : b = a
      · simp [h1]
      · by_cases h2 : b ∈ tb <;> simp [h1, h2]
    · rcases List.mem_cons.mp m with y | y
      · exact .inl y
      · exact .inr y
    · rcases List.mem_cons.mp m with y | y
      · rw [y]
        exact hk
      · exact (ofT b y).2
    · have ne : p.2 ≠ a := fun y => aT (by rw [← y]; exact inT p mp)
      show (if p.2 = a then _ else _) = _
      rw [if_neg ne, if_pos (inT p mp)]
    · by_cases h1 : b = a
      · exact .inr (.inr ⟨by rw [h1]; exact aT, _, _, if_pos h1⟩)
      · by_cases h2 : b ∈ tb
        · exact .inr (.inl ⟨h2, (if_neg h1).trans (if_pos h2)⟩)
        · exact .inl ((if_neg h1).trans (if_neg h2))
    · by_cases h1 : b = a
      · have y := (if_pos h1).symm.trans z
        cases y
        rw [h1]
        exact ⟨ga, by rw [List.length_map]; exact hl, vs, _, rv, ga⟩
      · have y1 := (if_neg h1).symm.trans z
        by_cases h2 : b ∈ tb
        · have y := (if_pos h2).symm.trans y1
          cases y
          exact (ofT b h2).1
        · have y := (if_neg h2).symm.trans y1
          cases y
end OB
namespace OB
open PySem PySem.Spec PyProof.Rows L2 LamX
/-! ### is_from_one -/
section
variable {P : Program} {w : World} {K : PySem.W.Frag} {mg : Str → Option Value} {base : Heap}
theorem scIsOne : FnScope ["thing"] ["thing"] (defScope sIsOne) := ⟨rfl, rfl, rfl, by decide +kernel, rfl, by decide +kernel, by decide +kernel⟩
theorem ok_isOne {f fI : Addr} {fd fdI : FuncData} (F : Fun K "is_from_one" "is_from_one" sIsOne f fd) (FI : Fun K "is_integer" "is_integer" sIsInt fI fdI) (gI : mg "is_integer" = some (.ref fI)) (T : TxtC mg) : FnOk P w K mg base CX0 2 f fd ["thing"] (spAsk K (numFrom 1)) := by
  have GI : FnOk P w K mg base CX0 1 fI fdI ["thing"] (spAsk K fInt) := ok_isInt FI T
  have bI : Binds K fdI ["thing"] [] := FI.binds fun _ _ _ _ _ _ us hl => match us, hl with | [_], _ => rfl
  refine F.ok scIsOne (fun vs H Q E h => ?_) (fun cdv A outer s H vs Q E hr h => ?_)
  · obtain ⟨v, k, rfl, _⟩ := h
    rfl
  · obtain ⟨v, k, rfl, a, q⟩ := h
    refine ⟨_, pss_one (ps_ret (pe_and (pe_call GI hr (by rfl) gI FI.kp bI .nil pass0 (pa_cons (pv 0) pa_nil)) (pe_one (pe_cmpR op_ge (pv 0) pe_int (nomark _))))), ?_⟩
    refine ⟨_, rfl, v, k, rfl, a, fun H' e => ⟨_, rfl, ?_⟩⟩
    have q' := q H' e
    cases a with
    | int i => exact iteT ⟨_, rfl, i, 1, rfl, rfl, q'⟩
    | _ => exact iteF q'
end
end OB
namespace OB
open PySem PySem.Spec PyProof.Rows L2 LamX
/-! ### all that the law rests on, as the looks say it -/
section
variable {P : Program} {w : World} {h : Heap} {K : PySem.W.Frag} {mg : Str → Option Value} {base : Heap}
theorem SaysK.me (s : SaysK w h K) {c m q : Str} {st : Stmt} (mm : dMe c m q st ∈ mes) (km : He.Fa.meth c m ∈ fa1) : ∃ fd, Fun K m q st (He.ma K (He.ga K c) m) fd := by
  obtain ⟨oc, od, osl, kV, doc, pm, an, cdv, ct, lk, hc⟩ := s.def_ (d := dMe c m q st) (List.mem_append_right _ mm)
  exact ⟨_, ⟨oc, od, kV, doc, pm, an, cdv, ct, osl, rfl, lk, hc⟩, (He.meth_ok (s.fact (mem_fa1 km))).kp⟩
theorem SaysK.fnC (s : SaysK w h K) {x : Str} {i : Nat} (m : (x, i) ∈ fns) : ∃ fd, FunC K x x (top i) (He.ga K x) fd (He.cT K (x, none)).1 := by
  obtain ⟨oc, od, osl, kV, doc, pm, an, cdv, ct, lk, hc⟩ := s.def_ (d := dFn (x, i)) (List.mem_append_left _ (List.mem_map.mpr ⟨_, m, rfl⟩))
  obtain ⟨c, rfl⟩ := He.codeIn_ref hc
  have e : (He.cT K (x, none)).1 = c := He.codeOf_eq (p := (x, none)) lk rfl
  rw [e]
  exact ⟨_, ⟨oc, od, kV, doc, pm, an, ct, osl, rfl, lk, hc⟩, s.fact (mem_fa2 m)⟩
theorem cls_at {K : PySem.W.Frag} {a : Addr} (c : clsIs K a = true) : ∃ o, K.lookup a = some o ∧ o.cls = .type "function" := by
  unfold clsIs at c
  split at c
  · rename_i ty d dt sl e
    have e1 : ty = "function" := of_decide_eq_true c
    exact ⟨_, e, by rw [e1]⟩
  · cases c
theorem has_at {K : PySem.W.Frag} {a : Addr} (c : hasB K a = true) : ∃ o, K.lookup a = some o := by
  unfold hasB at c
  split at c
  · rename_i o e
    exact ⟨o, e⟩
  · cases c
structure ExD (K : PySem.W.Frag) : Prop where
  oL : ownB K (He.ga K "Land") = true
  land : landB K (He.ga K "Land") = true
  eBadAddresses : ErrC K "BadAddresses"
  eBadMost : ErrC K "BadMost"
  eBadLand : ErrC K "BadLand"
  eBadBook : ErrC K "BadBook"
  eNoAddress : ErrC K "NoAddress"
  opq : PySem.W.nsIn K cStatics "thirdparty.any" = some none
  sys : ∃ o, K.lookup sysModules = some o
theorem SaysK.ex (s : SaysK w h K) : ExD K := by
  have e := s.D
  unfold exB at e
  simp only [Bool.and_eq_true] at e
  obtain ⟨e1, e2, e3, e4, e5, e6, e7, e8, e9⟩ := e
  exact ⟨e1, e2, errC_of e3, errC_of e4, errC_of e5, errC_of e6, errC_of e7, He.eqO_ok e8, has_at e9⟩
theorem SaysK.init (s : SaysK w h K) : initO K (He.ma K (He.ga K "BadAddresses") "__init__") = initV (inClass (top 12) 0) ∧ initO K (He.ma K (He.ga K "BadMost") "__init__") = initV (inClass (top 13) 0) ∧ initO K (He.ma K (He.ga K "BadLand") "__init__") = initV (inClass (top 14) 0) ∧ initO K (He.ma K (He.ga K "BadBook") "__init__") = initV (inClass (top 22) 0) ∧ initO K (He.ma K (He.ga K "NoAddress") "__init__") = initV (inClass (top 15) 0) := by
  have e : (inits.map fun p => initO K (He.ma K (He.ga K p.1) "__init__")) = inits.map fun p => initV p.2 := s.C
  have e1 : [initO K (He.ma K (He.ga K "BadAddresses") "__init__"), initO K (He.ma K (He.ga K "BadMost") "__init__"), initO K (He.ma K (He.ga K "BadLand") "__init__"), initO K (He.ma K (He.ga K "BadBook") "__init__"), initO K (He.ma K (He.ga K "NoAddress") "__init__")] = [initV (inClass (top 12) 0), initV (inClass (top 13) 0), initV (inClass (top 14) 0), initV (inClass (top 22) 0), initV (inClass (top 15) 0)] := e
  injection e1 with h1 e1
  injection e1 with h2 e1
  injection e1 with h3 e1
  injection e1 with h4 e1
  injection e1 with h5 _
  exact ⟨h1, h2, h3, h4, h5⟩
end
theorem roomL : Room 11 callerA := ⟨rfl, by decide, by decide⟩
section
variable {P : Program} {w : World} {h : Heap} {K : PySem.W.Frag} {mg : Str → Option Value} {base : Heap}
theorem FunC.binds {x qual : Str} {st : Stmt} {f c : Addr} {fd : FuncData} {ps : List Str} (F : FunC K x qual st f fd c)
    (h : ∀ (kV doc pm : Value) (an : Option Addr) (ct : Value) (us : List Value), us.length = ps.length → bindArgs (PySem.W.fnOf x qual (defArgs st) (defBody st) (defScope st) .none kV doc pm an (.ref c) ct) ⟨us, []⟩ = pure (ps.zip us)) : Binds K fd ps [] := by
  obtain ⟨oc, od, kV, doc, pm, an, ct, osl, rfl, lk, hcd⟩ := F.ex
  exact .all (h kV doc pm an ct)
abbrev pRR (K : PySem.W.Frag) : Addr × Addr := He.cT K ("_law_refused_right", none)
abbrev TTs (K : PySem.W.Frag) : List (Addr × Str) := [((pRR K).2, qRef)]
def cls3 (K : PySem.W.Frag) : Cls3 := ⟨He.ga K "BadLand", He.ga K "BadBook", He.ga K "NoAddress"⟩
/-- the law's body at the outermost caller -/
theorem law_run (hP : file = P.main.file) (htop : (P.main.scope.names.lookup ("super" : Str)).isSome = false) (s : SaysK w h K) (X : K.In base) (G : base.Ns mainGlobals mg) (TBRR : TabB base mg (pRR K).1 (pRR K).2)
    {fa a : Addr} {cdv : Value} {s₁ : Shared} {H : Hp} {ns : List Int} (hS : SqL K H a (ns.map V.int)) (hn : ns.length ≤ 100) (tabs : Tabs (TTs K) H) (hr : Room 10 (cxLaw P w K mg base fa cdv s₁ H).A) :
    ∃ t, PSs (cxLaw P w K mg base fa cdv s₁ H) (defBody sLaw) t ∧ t { nx := fun _ _ => (V.non = .bl true), rt := fun v _ => v = .bl true } (L2.start Nlw [.ref a]) H := by
  have D := s.ex
  have fr : ∀ {x : Str}, x ∈ frees → mg x = none := fun m => s.free X G m
  have T : TxtC mg := ⟨fr (by simp [frees]), fr (by simp [frees]), fr (by simp [frees]), fr (by simp [frees]), fr (by simp [frees]), fr (by simp [frees]), fr (by simp [frees]), fr (by simp [frees])⟩
  have TD : TxtD mg := ⟨fr (by simp [frees]), fr (by simp [frees]), fr (by simp [frees]), fr (by simp [frees]), fr (by simp [frees]), fr (by simp [frees]), fr (by simp [frees])⟩
  have TF : TxtF mg := ⟨fr (by simp [frees]), fr (by simp [frees]), fr (by simp [frees]), fr (by simp [frees])⟩
  have se : mg "set" = none := fr (by simp [frees])
  have mi : mg "min" = none := fr (by simp [frees])
  have rp : mg "repr" = none := fr (by simp [frees])
  have le : mg "len" = none := fr (by simp [frees])
  have di : mg "dict" = none := fr (by simp [frees])
  have an : mg "any" = none := fr (by simp [frees])
  have al : mg "all" = none := fr (by simp [frees])
  have fct : ∀ {f : He.Fa}, f ∈ fa1 → f.ok K = true := fun m => s.fact (mem_fa1 m)
  have TN : TxtN mg := ⟨He.str_ok X G (fct (by simp [fa1])), He.str_ok X G (fct (by simp [fa1])), He.int_ok X G (fct (by simp [fa1]))⟩
  have TL : TxtL mg := ⟨fr (by simp [frees]), He.int_ok X G (fct (by simp [fa1]))⟩
  have spr : PySem.W.nsIn K mainGlobals "super" = some none := He.eqO_ok (s.fact (mem_free (by simp [frees])))
  obtain ⟨i1, i2, i3, i4, i5⟩ := s.init
  have gBadAddresses : mg "BadAddresses" = some (.ref (He.ga K "BadAddresses")) := He.glo_ok X G (fct (by simp [fa1]))
  have EBadAddresses : ErrK P K mg "BadAddresses" (He.ga K "BadAddresses") (He.ma K (He.ga K "BadAddresses") "__init__") "index" := errK_of hP D.eBadAddresses i1 iniBadAddresses bdsBadAddresses (He.noat_ok (fct (by simp [fa1]))) D.opq spr gBadAddresses ⟨rfl, rfl, rfl, rfl⟩
  have gBadMost : mg "BadMost" = some (.ref (He.ga K "BadMost")) := He.glo_ok X G (fct (by simp [fa1]))
  have EBadMost : ErrK P K mg "BadMost" (He.ga K "BadMost") (He.ma K (He.ga K "BadMost") "__init__") "most" := errK_of hP D.eBadMost i2 iniBadMost bdsBadMost (He.noat_ok (fct (by simp [fa1]))) D.opq spr gBadMost ⟨rfl, rfl, rfl, rfl⟩
  have gBadLand : mg "BadLand" = some (.ref (He.ga K "BadLand")) := He.glo_ok X G (fct (by simp [fa1]))
  have EBadLand : ErrK P K mg "BadLand" (He.ga K "BadLand") (He.ma K (He.ga K "BadLand") "__init__") "thing" := errK_of hP D.eBadLand i3 iniBadLand bdsBadLand (He.noat_ok (fct (by simp [fa1]))) D.opq spr gBadLand ⟨rfl, rfl, rfl, rfl⟩
  have gBadBook : mg "BadBook" = some (.ref (He.ga K "BadBook")) := He.glo_ok X G (fct (by simp [fa1]))
  have EBadBook : ErrK P K mg "BadBook" (He.ga K "BadBook") (He.ma K (He.ga K "BadBook") "__init__") "book" := errK_of hP D.eBadBook i4 iniBadBook bdsBadBook (He.noat_ok (fct (by simp [fa1]))) D.opq spr gBadBook ⟨rfl, rfl, rfl, rfl⟩
  have gNoAddress : mg "NoAddress" = some (.ref (He.ga K "NoAddress")) := He.glo_ok X G (fct (by simp [fa1]))
  have ENoAddress : ErrK P K mg "NoAddress" (He.ga K "NoAddress") (He.ma K (He.ga K "NoAddress") "__init__") "address" := errK_of hP D.eNoAddress i5 iniNoAddress bdsNoAddress (He.noat_ok (fct (by simp [fa1]))) D.opq spr gNoAddress ⟨rfl, rfl, rfl, rfl⟩
  obtain ⟨gInt, fdInt, FInt⟩ := s.fn X G (x := "is_integer") (i := 4) (by simp [fns, fns0])
  have bInt := FInt.binds (ps := ["thing"]) (fun _ _ _ _ _ _ us hl => match us, hl with | [_], _ => rfl)
  obtain ⟨gOne, fdOne, FOne⟩ := s.fn X G (x := "is_from_one") (i := 5) (by simp [fns, fns0])
  have bOne := FOne.binds (ps := ["thing"]) (fun _ _ _ _ _ _ us hl => match us, hl with | [_], _ => rfl)
  obtain ⟨gList, fdList, FList⟩ := s.fn X G (x := "is_list") (i := 6) (by simp [fns, fns0])
  have bList := FList.binds (ps := ["thing"]) (fun _ _ _ _ _ _ us hl => match us, hl with | [_], _ => rfl)
  obtain ⟨gName, fdName, FName⟩ := s.fn X G (x := "is_name") (i := 7) (by simp [fns, fns0])
  have bName := FName.binds (ps := ["thing"]) (fun _ _ _ _ _ _ us hl => match us, hl with | [_], _ => rfl)
  obtain ⟨gWord, fdWord, FWord⟩ := s.fn X G (x := "is_word_of") (i := 8) (by simp [fns, fns0])
  have bWord := FWord.binds (ps := ["words", "thing"]) (fun _ _ _ _ _ _ us hl => match us, hl with | [_, _], _ => rfl)
  obtain ⟨gUnl, fdUnl, FUnl⟩ := s.fn X G (x := "unlike_addresses") (i := 9) (by simp [fns, fns0])
  have bUnl := FUnl.binds (ps := ["names", "thing"]) (fun _ _ _ _ _ _ us hl => match us, hl with | [_, _], _ => rfl)
  obtain ⟨gTNames, fdTNames, FTNames⟩ := s.fn X G (x := "told_names") (i := 18) (by simp [fns, fns0])
  have bTNames := FTNames.binds (ps := ["addresses"]) (fun _ _ _ _ _ _ us hl => match us, hl with | [_], _ => rfl)
  obtain ⟨gCkL, fdCkL, FCkL⟩ := s.fn X G (x := "check_land") (i := 20) (by simp [fns, fns0])
  have bCkL := FCkL.binds (ps := ["thing"]) (fun _ _ _ _ _ _ us hl => match us, hl with | [_], _ => rfl)
  obtain ⟨gOrd, fdOrd, FOrd⟩ := s.fn X G (x := "in_order") (i := 24) (by simp [fns, fns0])
  have bOrd := FOrd.binds (ps := ["names", "addresses"]) (fun _ _ _ _ _ _ us hl => match us, hl with | [_, _], _ => rfl)
  obtain ⟨gBTold, fdBTold, FBTold⟩ := s.fn X G (x := "book_told") (i := 25) (by simp [fns, fns0])
  have bBTold := FBTold.binds (ps := ["names", "thing"]) (fun _ _ _ _ _ _ us hl => match us, hl with | [_, _], _ => rfl)
  obtain ⟨gExact, fdExact, FExact⟩ := s.fn X G (x := "exact_book") (i := 26) (by simp [fns, fns0])
  have bExact := FExact.binds (ps := ["land", "book"]) (fun _ _ _ _ _ _ us hl => match us, hl with | [_, _], _ => rfl)
  obtain ⟨gCome, fdCome, FCome⟩ := s.fn X G (x := "come_by") (i := 27) (by simp [fns, fns0])
  have bCome := FCome.binds (ps := ["book", "address"]) (fun _ _ _ _ _ _ us hl => match us, hl with | [_, _], _ => rfl)
  obtain ⟨gRingA, fdRingA, FRingA⟩ := s.fn X G (x := "ring_among") (i := 28) (by simp [fns, fns0])
  have bRingA := FRingA.binds (ps := ["book", "addresses"]) (fun _ _ _ _ _ _ us hl => match us, hl with | [_, _], _ => rfl)
  obtain ⟨gArr, fdArr, FArr⟩ := s.fn X G (x := "arrivals") (i := 29) (by simp [fns, fns0])
  have bArr := FArr.binds (ps := ["names", "book", "address"]) (fun _ _ _ _ _ _ us hl => match us, hl with | [_, _, _], _ => rfl)
  obtain ⟨gCkA, fdCkA, FCkA⟩ := s.fn X G (x := "check_address") (i := 30) (by simp [fns, fns0])
  have bCkA := FCkA.binds (ps := ["land", "address"]) (fun _ _ _ _ _ _ us hl => match us, hl with | [_, _], _ => rfl)
  obtain ⟨gFollow, fdFollow, FFollow⟩ := s.fn X G (x := "follow") (i := 31) (by simp [fns, fns0])
  have bFollow := FFollow.binds (ps := ["land", "book", "address"]) (fun _ _ _ _ _ _ us hl => match us, hl with | [_, _, _], _ => rfl)
  obtain ⟨gRingOf, fdRingOf, FRingOf⟩ := s.fn X G (x := "ring_of") (i := 32) (by simp [fns, fns0])
  have bRingOf := FRingOf.binds (ps := ["land", "book", "address"]) (fun _ _ _ _ _ _ us hl => match us, hl with | [_, _, _], _ => rfl)
  obtain ⟨gSource, fdSource, FSource⟩ := s.fn X G (x := "_law_source") (i := 34) (by simp [fns, fns1])
  have bSource := FSource.binds (ps := ["script", "place"]) (fun _ _ _ _ _ _ us hl => match us, hl with | [_, _], _ => rfl)
  obtain ⟨gDraw, fdDraw, FDraw⟩ := s.fn X G (x := "_law_draw") (i := 35) (by simp [fns, fns1])
  have bDraw := FDraw.binds (ps := ["draws", "many"]) (fun _ _ _ _ _ _ us hl => match us, hl with | [_, _], _ => rfl)
  obtain ⟨gPick, fdPick, FPick⟩ := s.fn X G (x := "_law_pick") (i := 36) (by simp [fns, fns1])
  have bPick := FPick.binds (ps := ["draws", "some"]) (fun _ _ _ _ _ _ us hl => match us, hl with | [_, _], _ => rfl)
  obtain ⟨gMixed, fdMixed, FMixed⟩ := s.fn X G (x := "_law_mixed") (i := 37) (by simp [fns, fns1])
  have bMixed := FMixed.binds (ps := ["draws", "some"]) (fun _ _ _ _ _ _ us hl => match us, hl with | [_, _], _ => rfl)
  obtain ⟨gSame, fdSame, FSame⟩ := s.fn X G (x := "_law_same") (i := 38) (by simp [fns, fns1])
  have bSame := FSame.binds (ps := ["found", "due"]) (fun _ _ _ _ _ _ us hl => match us, hl with | [_, _], _ => rfl)
  obtain ⟨gLoose, fdLoose, FLoose⟩ := s.fn X G (x := "_law_loose") (i := 39) (by simp [fns, fns1])
  have bLoose := FLoose.binds (ps := ["draws", "thing"]) (fun _ _ _ _ _ _ us hl => match us, hl with | [_, _], _ => rfl)
  obtain ⟨gLNames, fdLNames, FLNames⟩ := s.fn X G (x := "_law_land_names") (i := 40) (by simp [fns, fns1])
  have bLNames := FLNames.binds (ps := ["draws", "many"]) (fun _ _ _ _ _ _ us hl => match us, hl with | [_, _], _ => rfl)
  obtain ⟨gReach, fdReach, FReach⟩ := s.fn X G (x := "_law_reach") (i := 41) (by simp [fns, fns1])
  have bReach := FReach.binds (ps := ["book", "address"]) (fun _ _ _ _ _ _ us hl => match us, hl with | [_, _], _ => rfl)
  obtain ⟨gGoR, fdGoR, FGoR⟩ := s.fn X G (x := "_law_goes_round") (i := 42) (by simp [fns, fns1])
  have bGoR := FGoR.binds (ps := ["book", "address"]) (fun _ _ _ _ _ _ us hl => match us, hl with | [_, _], _ => rfl)
  obtain ⟨gLFol, fdLFol, FLFol⟩ := s.fn X G (x := "_law_follow") (i := 43) (by simp [fns, fns1])
  have bLFol := FLFol.binds (ps := ["names", "book", "address"]) (fun _ _ _ _ _ _ us hl => match us, hl with | [_, _, _], _ => rfl)
  obtain ⟨gAnyB, fdAnyB, FAnyB⟩ := s.fn X G (x := "_law_any_book") (i := 44) (by simp [fns, fns1])
  have bAnyB := FAnyB.binds (ps := ["draws", "names", "most"]) (fun _ _ _ _ _ _ us hl => match us, hl with | [_, _, _], _ => rfl)
  obtain ⟨gMet, fdMet, FMet⟩ := s.fn X G (x := "_law_met") (i := 45) (by simp [fns, fns1])
  have bMet := FMet.binds (ps := ["ask"]) (fun _ _ _ _ _ _ us hl => match us, hl with | [_], _ => rfl)
  obtain ⟨gIsRing, fdIsRing, FIsRing⟩ := s.fn X G (x := "_law_is_ring") (i := 46) (by simp [fns, fns1])
  have bIsRing := FIsRing.binds (ps := ["book", "address", "told"]) (fun _ _ _ _ _ _ us hl => match us, hl with | [_, _, _], _ => rfl)
  obtain ⟨gBookR, fdBookR, FBookR⟩ := s.fn X G (x := "_law_book_right") (i := 47) (by simp [fns, fns1])
  have bBookR := FBookR.binds (ps := ["draws", "land", "names", "book"]) (fun _ _ _ _ _ _ us hl => match us, hl with | [_, _, _, _], _ => rfl)
  obtain ⟨gRR, fdRR0, FRR0⟩ := s.fn X G (x := "_law_refused_right") (i := 48) (by simp [fns, fns1])
  obtain ⟨fdRR, FRR⟩ := s.fnC (x := "_law_refused_right") (i := 48) (by simp [fns, fns1])
  have bRR := FRR.binds (ps := ["draws", "land", "names", "book"]) fun _ _ _ _ _ us hl => match us, hl with | [_, _, _, _], _ => rfl
  have mTRR : ((pRR K).2, qRef) ∈ TTs K := List.mem_singleton.mpr rfl
  have hTRR : ∀ y ∈ TTs K, y.1 = (pRR K).2 → y.2 = qRef := fun y m _ => by rw [List.mem_singleton.mp m]
  obtain ⟨fdLI, FLI⟩ := s.me (c := "Land") (m := "__init__") (q := "Land.__init__") (st := inClass (top 19) 0) (by simp [mes]) (by simp [fa1])
  have bLI := FLI.binds (ps := ["self", "addresses", "most"]) (fun _ _ _ _ _ _ us hl => match us, hl with | [_, _, _], _ => rfl)
  obtain ⟨fdLE, FLE⟩ := s.me (c := "Land") (m := "__eq__") (q := "Land.__eq__") (st := inClass (top 19) 1) (by simp [mes]) (by simp [fa1])
  have bLE := FLE.binds (ps := ["self", "other"]) (fun _ _ _ _ _ _ us hl => match us, hl with | [_, _], _ => rfl)
  obtain ⟨fdLA, FLA⟩ := s.me (c := "Land") (m := "addresses") (q := "Land.addresses") (st := inClass (top 19) 2) (by simp [mes]) (by simp [fa1])
  have bLA := FLA.binds (ps := ["self"]) (fun _ _ _ _ _ _ us hl => match us, hl with | [_], _ => rfl)
  have gC : mg "Land" = some (.ref (He.ga K "Land")) := He.glo_ok X G (fct (by simp [fa1]))
  have LC : LandC K (He.ga K "Land") := ⟨He.cls_ok (fct (by simp [fa1])), He.noat_ok (fct (by simp [fa1])), He.noat_ok (fct (by simp [fa1]))⟩
  have own := ownC_of LC.cl D.oL
  have mE : Meth K (He.ga K "Land") "__eq__" (He.ma K (He.ga K "Land") "__eq__") := He.meth_ok (fct (by simp [fa1]))
  obtain ⟨LE, kf⟩ := landB_of own mE D.land
  have L : LandM P w K mg base (He.ga K "Land") (He.ma K (He.ga K "Land") "addresses") fdLA := ⟨gC, LC, own, LE.kit, kf, He.meth_ok (fct (by simp [fa1])), ok_landAdr FLA LC T, bLA⟩
  have GList : FnOk P w K mg base CX0 1 _ fdList ["thing"] (spAsk K fSeq) := ok_isList FList T
  have GOne : FnOk P w K mg base CX0 2 _ fdOne ["thing"] (spAsk K (numFrom 1)) := ok_isOne FOne FInt gInt T
  have GTNames : FnOk P w K mg base (L2.CX P w) 3 _ fdTNames ["addresses"] (spNames K (He.ga K "BadAddresses")) := ok_names FTNames FList gList FName gName T TN TL EBadAddresses htop
  have LK : LandK P w K mg base (He.ga K "Land") (He.ga K "BadAddresses") (He.ga K "BadMost") (He.ma K (He.ga K "Land") "__init__") fdLI := ⟨He.mkr_ok (fct (by simp [fa1])), gC, ok_landInit FLI GTNames gTNames FTNames.kp bTNames GOne gOne FOne.kp bOne LC EBadMost htop, bLI⟩
  have GWord : FnOk P w K mg base CX0 1 _ fdWord ["words", "thing"] (spWord K) := ok_isWord FWord T
  have GUnl : FnOk P w K mg base CX0 2 _ fdUnl ["names", "thing"] (spUnl K) := ok_unl FUnl T al le se GList gList FList.kp bList GWord gWord FWord.kp bWord
  have GOrd : FnOk P w K mg base CX0 1 _ fdOrd ["names", "addresses"] (spOrd K) := ok_ordr FOrd T
  have GCome : FnOk P w K mg base CX0 1 _ fdCome ["book", "address"] spComeF := ok_come FCome T le
  have GReach : FnOk P w K mg base CX0 1 _ fdReach ["book", "address"] spCome := ok_reach FReach T le
  have GGoR : FnOk P w K mg base CX0 2 _ fdGoR ["book", "address"] spGoR := ok_goR FGoR an GReach gReach FReach.kp bReach
  have GCkL : FnOk P w K mg base (L2.CX P w) 2 _ fdCkL ["thing"] (spCkLand K (He.ga K "Land") (He.ga K "BadLand")) := ok_ckLand FCkL T gC EBadLand htop
  have GCkA : FnOk P w K mg base (L2.CX P w) 2 _ fdCkA ["land", "address"] (spCkAdr K (He.ga K "Land") (He.ga K "NoAddress")) := ok_ckAdr FCkA L GWord gWord FWord.kp bWord ENoAddress htop
  have GBTold : FnOk P w K mg base CX0 3 _ fdBTold ["names", "thing"] (spBTold K) := ok_bTold FBTold T di GWord gWord FWord.kp bWord GUnl gUnl FUnl.kp bUnl GOrd gOrd FOrd.kp bOrd
  have GRingA : FnOk P w K mg base CX0 1 _ fdRingA ["book", "addresses"] spRing := ok_ring FRingA an
  have GArr : FnOk P w K mg base CX0 2 _ fdArr ["names", "book", "address"] (spArr K) := ok_arr FArr GCome gCome FCome.kp bCome GRingA gRingA FRingA.kp bRingA GOrd gOrd FOrd.kp bOrd
  have GExact : FnOk P w K mg base (L2.CX P w) 4 _ fdExact ["land", "book"] (spExact K (He.ga K "Land") (He.ga K "BadLand") (He.ga K "BadBook")) := ok_exact FExact L GCkL gCkL FCkL.kp bCkL GBTold gBTold FBTold.kp bBTold EBadBook htop
  have GFollow : FnOk P w K mg base (L2.CX P w) 5 _ fdFollow ["land", "book", "address"] (spAlong K (He.ga K "Land") (He.ga K "BadLand") (He.ga K "BadBook") (He.ga K "NoAddress") tellF) := ok_follow FFollow L GExact gExact FExact.kp bExact GCkA gCkA FCkA.kp bCkA GArr gArr FArr.kp bArr
  have GRingOf : FnOk P w K mg base (L2.CX P w) 5 _ fdRingOf ["land", "book", "address"] (spAlong K (He.ga K "Land") (He.ga K "BadLand") (He.ga K "BadBook") (He.ga K "NoAddress") tellR) := ok_ringOf (fA := He.ma K (He.ga K "Land") "addresses") (fdA := fdLA) FRingOf GExact gExact FExact.kp bExact GCkA gCkA FCkA.kp bCkA GCome gCome FCome.kp bCome GRingA gRingA FRingA.kp bRingA
  have GSource : FnOk P w K mg base CX0 1 _ fdSource ["script", "place"] (spSource K) := ok_source FSource TD
  have GDraw : FnOk P w K mg base CX0 1 _ fdDraw ["draws", "many"] spDraw := ok_draw FDraw TD
  have GPick : FnOk P w K mg base CX0 2 _ fdPick ["draws", "some"] (spPick K) := ok_pick FPick TD GDraw gDraw FDraw.kp bDraw
  have GMixed : FnOk P w K mg base CX0 2 _ fdMixed ["draws", "some"] spMixed := ok_mixed FMixed TD GDraw gDraw FDraw.kp bDraw
  have GLNames : FnOk P w K mg base CX0 3 _ fdLNames ["draws", "many"] spLNames := ok_lnames FLNames GMixed gMixed FMixed.kp bMixed
  have GLFol : FnOk P w K mg base CX0 3 _ fdLFol ["names", "book", "address"] (spLFol K) := ok_lfol FLFol T GReach gReach FReach.kp bReach GGoR gGoR FGoR.kp bGoR
  have GAnyB : FnOk P w K mg base CX0 3 _ fdAnyB ["draws", "names", "most"] spAnyB := ok_anyB FAnyB T GDraw gDraw FDraw.kp bDraw GPick gPick FPick.kp bPick GMixed gMixed FMixed.kp bMixed
  have GLoose : FnOk P w K mg base CX0 2 _ fdLoose ["draws", "thing"] spLoose1 := ok_loose1 FLoose T gLoose bLoose GDraw gDraw FDraw.kp bDraw
  have GE := ok_landEq (P := P) (w := w) (base := base) FLE LC T gC
  have GSame3 : FnOk P w K mg base CX0 4 _ fdSame ["found", "due"] (spSame (SameV K (He.ga K "Land") 3)) := ok_same FSame gSame T TF LE GE bLE bSame 3
  have GSame8 : FnOk P w K mg base CX0 9 _ fdSame ["found", "due"] (spSame (SameV K (He.ga K "Land") 8)) := ok_same FSame gSame T TF LE GE bLE bSame 8
  have GIsRing : FnOk P w K mg base CX0 2 _ fdIsRing ["book", "address", "told"] spIsRing := ok_isRing FIsRing T TF GReach gReach FReach.kp bReach
  have ME : MetK K mg (cls3 K) := ⟨gBadLand, D.eBadLand.xf, He.noat_ok (fct (by simp [fa1])), gBadBook, D.eBadBook.xf, He.noat_ok (fct (by simp [fa1])), gNoAddress, D.eNoAddress.xf, He.noat_ok (fct (by simp [fa1])), He.exm_ok (fct (by simp [fa1])), He.exm_ok (fct (by simp [fa1])), He.exm_ok (fct (by simp [fa1])), He.exm_ok (fct (by simp [fa1])), He.exm_ok (fct (by simp [fa1])), He.exm_ok (fct (by simp [fa1]))⟩
  have GRR : FnOk P w K mg base CX0 10 _ fdRR ["draws", "land", "names", "book"] (spRefR K (He.ga K "Land") (TTs K)) := ok_refR (C3 := cls3 K) FRR L GSame8 gSame FSame.kp bSame FMet bMet gMet ME GFollow gFollow FFollow.kp bFollow GRingOf gRingOf FRingOf.kp bRingOf TBRR hTRR mTRR
  have hsys : ∃ o, base.get? sysModules = some o := by
    obtain ⟨o, e⟩ := D.sys
    exact ⟨o, X _ _ e⟩
  have kwF : KBn K fdFollow ["land", "book", "address"] 0 ["address", "book", "land"] (fun _ ws => ws.reverse) (fun _ zs => zs.reverse) := Fun.rev FFollow fun _ _ _ _ _ _ ws hl => bind_follow ws hl
  have kwG : KBn K fdRingOf ["land", "book", "address"] 0 ["address", "book", "land"] (fun _ ws => ws.reverse) (fun _ zs => zs.reverse) := Fun.rev FRingOf fun _ _ _ _ _ _ ws hl => bind_ringOf ws hl
  have DB : BodyAt (cxLaw P w K mg base fa cdv s₁ H) 5 (He.ga K "_law_book_right") "_law_book_right" sBook ["draws", "land", "names", "book"] (spBook (He.ga K "Land")) :=
    bookR_at (X := cxLaw P w K mg base fa cdv s₁ H) rfl hsys rp T TF L GMixed gMixed FMixed.kp bMixed GLoose gLoose FLoose.kp bLoose GFollow gFollow FFollow.kp bFollow kwF GRingOf gRingOf FRingOf.kp bRingOf kwG GSame3 gSame FSame.kp bSame GIsRing gIsRing FIsRing.kp bIsRing GLFol gLFol FLFol.kp bLFol
  exact law_body T TD mi L LK GSource gSource FSource.kp bSource GDraw gDraw FDraw.kp bDraw GLNames gLNames FLNames.kp bLNames GAnyB gAnyB FAnyB.kp bAnyB GRR gRR FRR.kp bRR FBookR gBookR bBookR DB hS hn tabs hr
end
end OB
namespace OB
open PySem PySem.Spec PyProof.Rows L2 LamX
/-- the law, called by the outermost caller behind the top -/
theorem law_call0 {P : Program} {w : World} {K : PySem.W.Frag} {mg mb : Str → Option Value} {fa a : Addr} {s₁ : Shared} {vs : List Value} {ns : List Int}
    (hP : file = P.main.file) (htop : (P.main.scope.names.lookup ("super" : Str)).isSome = false) (KX : K.In s₁.heap) (S : SaysK w s₁.heap K) (hmg : mg "law" = some (.ref fa))
    (nG : s₁.heap.Ns mainGlobals mg) (nB : s₁.heap.Ns builtinsNs mb) (hB : ∀ x : Str, x ≠ "__name__" → mb x = bootBuiltins x) (lim : s₁.heap.NoLimit) (ge : s₁.gens = #[])
    (bm : ∃ (m : Addr) (ob : Obj), mg "__builtins__" = some (.ref m) ∧ m ≠ builtinsNs ∧ s₁.heap.get? m = some ob ∧ ob.cls = .type "module" ∧ ob.dict = some builtinsNs ∧ ob.data = .plain)
    (ga : s₁.heap.get? a = some { cls := .type "list", data := .seq vs.toArray }) (iv : IntsAre vs ns) (hl : ns.length ≤ 63) :
    codeAny (model P w) callerA (.call (.ref fa) ⟨[.ref a], []⟩) (fun r s' => r = .ok (.ret (.bool true)) ∧ OldK s₁.heap s'.heap ∧ s'.os = s₁.os ∧ AllBare s'.gens) s₁ := by
  have mLaw : (("law" : Str), 49) ∈ fns := by simp [fns, fns1]
  have mt : (("_law_refused_right" : Str), (none : Option Str)) ∈ tfs := List.mem_singleton.mpr rfl
  have eL := He.glo_ok KX nG (S.fact (mem_fa0 mLaw))
  obtain ⟨oc, od, osl, kV, doc, pm, an, cdv, ct, lk, hcd⟩ := S.def_ (d := dFn ("law", 49)) (List.mem_append_left _ (List.mem_map.mpr ⟨_, mLaw, rfl⟩))
  have ef : fa = He.ga K "law" := Value.ref.inj (Option.some.inj (hmg.symm.trans eL))
  subst ef
  refine law_at (cs := [He.cT K ("_law_refused_right", none)]) (K := K) KX nG nB hB lim ge (fun p m => ?_) (fun p m => ?_) (fun p m => ?_) bm ga iv (Nat.le_trans hl (by decide)) fun base H KB G TB hT hS e0 => ?_
  · rw [List.mem_singleton.mp m]
    exact S.empty _ mt
  · rw [List.mem_singleton.mp m]
    exact S.out _ mt
  · rw [List.mem_singleton.mp m]
    exact PySem.W.codeHd_of_K KX (S.hd _ mt)
  · have tabs0 : Tabs [((He.cT K ("_law_refused_right", none)).2, qRef)] H := fun p m => by
      rw [List.mem_singleton.mp m]
      exact TabS.nil (hT _ (List.mem_singleton.mpr rfl))
    refine run_ofS (CX := CX0) (k := 10) (N := Nlw) (ps := ["script"]) (us := [.ref a]) (vs := [.ref a]) (Q := fun v _ => v = .bl true) (E := fun _ _ _ => False) lk hcd scLaw roomL e0 (.of_eq rfl) (.cons rfl .nil) rfl fun hr => ?_
    obtain ⟨t, ht1, ht2⟩ := law_run (P := P) (w := w) hP htop S KB G (TB _ (List.mem_singleton.mpr rfl)) (fa := He.ga K "law") (cdv := cdv) (s₁ := s₁) hS (by omega) tabs0 hr
    exact ⟨t, ht1.nox, ht2⟩
end OB
namespace OB
open PySem PySem.W PySem.Calls PyProof.Rows
abbrev R : OpenRow := OpenLaw.row PySem.Challenge.rw_oldaddress_k51_whole_books_followed
abbrev qv : Program := view R.prog [49]
def names0 : List PySem.Str := ["__name__", "LETTERS", "FIGURES", "LONGEST_NAME", "FEWEST", "AddressError", "Land", "BadAddresses", "BadMost", "BadLand", "BadBook", "NoAddress", "is_integer", "is_from_one", "is_list", "is_name", "is_word_of", "unlike_addresses", "told_names", "check_land", "in_order", "book_told"]
def names1 : List PySem.Str := ["exact_book", "come_by", "ring_among", "arrivals", "check_address", "follow", "ring_of", "_law_source", "_law_draw", "_law_pick", "_law_mixed", "_law_same", "_law_loose", "_law_land_names", "_law_reach", "_law_goes_round", "_law_follow", "_law_any_book", "_law_met", "_law_is_ring", "_law_book_right", "_law_refused_right"]
def names : List PySem.Str := names0 ++ names1
def RunL : Prop := ∀ (w : World) (os : OsState), (HandSHeadRun.endF (HandSHeadRun.stepQ (HandSHeadRun.denQ HandSHeadRun.tabQ) R.prog w) 20000 R.prog w os).map (fun s => HandSHeadRun.looksF R.prog (boot_heap w.params) s.abs) = some true
def RunP {β : Type} (ob : SharedT → β) (v : World → β) : Prop := ∀ (w : World) (os : OsState), (HandSHeadRun.endF (HandSHeadRun.stepQ (HandSHeadRun.denQ HandSHeadRun.tabQ) R.prog w) 20000 R.prog w os).map ob = some (v w)
theorem both {β : Type} {ob : SharedT → β} {v : World → β} (h0 : ∀ (w : World) (os : OsState), (HandSHeadRun.endF (HandSHeadRun.stepQ (HandSHeadRun.denQ HandSHeadRun.tabQ) R.prog (w.withFollow "special-get-raises" false)) 20000 R.prog (w.withFollow "special-get-raises" false) os).map ob = some (v (w.withFollow "special-get-raises" false)))
    (h1 : ∀ (w : World) (os : OsState), (HandSHeadRun.endF (HandSHeadRun.stepQ (HandSHeadRun.denQ HandSHeadRun.tabQ) R.prog (w.withFollow "special-get-raises" true)) 20000 R.prog (w.withFollow "special-get-raises" true) os).map ob = some (v (w.withFollow "special-get-raises" true))) : RunP ob v := fun w =>
  byRow2 "special-get-raises" (P := fun w => ∀ os : OsState, (HandSHeadRun.endF (HandSHeadRun.stepQ (HandSHeadRun.denQ HandSHeadRun.tabQ) R.prog w) 20000 R.prog w os).map ob = some (v w)) h0 h1 w
end OB
namespace OB
open PySem PySem.W PySem.Calls PyProof.Rows
theorem runL0 (w : World) (os : OsState) : (HandSHeadRun.endF (HandSHeadRun.stepQ (HandSHeadRun.denQ HandSHeadRun.tabQ) R.prog (w.withFollow "special-get-raises" false)) 20000 R.prog (w.withFollow "special-get-raises" false) os).map (fun s => HandSHeadRun.looksF R.prog (boot_heap (w.withFollow "special-get-raises" false).params) s.abs) = some true := by
  kernel_rfl
theorem runL1 (w : World) (os : OsState) : (HandSHeadRun.endF (HandSHeadRun.stepQ (HandSHeadRun.denQ HandSHeadRun.tabQ) R.prog (w.withFollow "special-get-raises" true)) 20000 R.prog (w.withFollow "special-get-raises" true) os).map (fun s => HandSHeadRun.looksF R.prog (boot_heap (w.withFollow "special-get-raises" true).params) s.abs) = some true := by
  kernel_rfl
theorem runL : RunL := fun w => byRow2 "special-get-raises" (P := fun w => ∀ os : OsState, (HandSHeadRun.endF (HandSHeadRun.stepQ (HandSHeadRun.denQ HandSHeadRun.tabQ) R.prog w) 20000 R.prog w os).map (fun s => HandSHeadRun.looksF R.prog (boot_heap w.params) s.abs) = some true) runL0 runL1 w
end OB
namespace OB
open PySem PySem.W PySem.Calls PyProof.Rows
theorem runB : RunP (fun s => lkB (HandSHeadRun.getT s)) (fun _ => true) := both (fun w os => by kernel_rfl) (fun w os => by kernel_rfl)
end OB
namespace OB
open PySem PySem.W PySem.Calls PyProof.Rows
theorem runA : RunP (fun s => lkA (HandSHeadRun.getT s)) (fun _ => vA) := both (fun w os => by kernel_rfl) (fun w os => by kernel_rfl)
end OB
namespace OB
open PySem PySem.W PySem.Calls PyProof.Rows
theorem runC : RunP (fun s => lkC (HandSHeadRun.getT s)) (fun _ => vC) := both (fun w os => by kernel_rfl) (fun w os => by kernel_rfl)
end OB
namespace OB
open PySem PySem.W PySem.Calls PyProof.Rows
theorem runD : RunP (fun s => lkD (HandSHeadRun.getT s)) (fun _ => true) := both (fun w os => by kernel_rfl) (fun w os => by kernel_rfl)
end OB
namespace OB
open PySem PySem.W PySem.Calls PyProof.Rows
theorem runS : RunP (fun s => HandSHeadRun.seenQ qv names (importedModules R.prog.main.body) (fun s => xlAt qv [] s && recOk R.toRowW.records s) s.abs) (fun _ => openGood qv names) := both (fun w os => by kernel_rfl) (fun w os => by kernel_rfl)
end OB
namespace OB
open PySem PySem.W PySem.Calls PyProof.Rows
def hk : Hook where
  α := LookT
  obs s := lk s.heap.get?
  val w := vl w
  says w h := ∃ K : Frag, K.In h ∧ SaysK w h K
  of _ _ e := says_of e
  keeps _ _ _ s k := by
    obtain ⟨K, X, t⟩ := s
    exact ⟨K, PySem.W.Frag.In.keeps X k, t.keeps k⟩
def ob (s : SharedT) : LookT := (lkA (HandSHeadRun.getT s), (lkB (HandSHeadRun.getT s), (lkC (HandSHeadRun.getT s), lkD (HandSHeadRun.getT s))))
theorem ob_eq (s : SharedT) : ob s = hk.obs s.abs := by
  have e : HandSHeadRun.getT s = s.abs.heap.get? := funext (HandSHeadRun.getT_eq s)
  show (lkA (HandSHeadRun.getT s), (lkB (HandSHeadRun.getT s), (lkC (HandSHeadRun.getT s), lkD (HandSHeadRun.getT s)))) = _
  rw [e] <;> rfl
theorem map_pair {S A B : Type} {o : Option S} {f : S → A} {g : S → B} {a : A} {b : B} (h1 : o.map f = some a) (h2 : o.map g = some b) : o.map (fun s => (f s, g s)) = some (a, b) := by
  cases o with
  | none => cases h1
  | some s =>
    obtain rfl := Option.some.inj h1
    obtain rfl := Option.some.inj h2
    rfl
theorem run (w : World) : HandSHeadRun.RunEq R qv hk ob 20000 names w := fun os => map_pair (runL w os) (map_pair (runS w os) (map_pair (runA w os) (map_pair (runB w os) (map_pair (runC w os) (runD w os)))))
theorem file_ok : file = PySem.Challenge.rw_oldaddress_k51_whole_books_followed.prog.main.file := by kernel_rfl
theorem top_ok : (PySem.Challenge.rw_oldaddress_k51_whole_books_followed.prog.main.scope.names.lookup ("super" : PySem.Str)).isSome = false := by kernel_rfl
end OB
open PySem PySem.W PySem.Calls PyProof.Rows
theorem PySem.Challenge.cw_oldaddress_k51_whole_books_followed_holds : PySem.Challenge.rw_oldaddress_k51_whole_books_followed.Holds := by
  w_on; o_law
  refine HandSHeadRun.head_any (r := OpenLaw.row PySem.Challenge.rw_oldaddress_k51_whole_books_followed) (q := view (OpenLaw.row PySem.Challenge.rw_oldaddress_k51_whole_books_followed).prog [49]) (H := OB.hk) (ob := OB.ob) (M := 20000) (loose := OB.names) (d := HandSHeadRun.topDef (OpenLaw.row PySem.Challenge.rw_oldaddress_k51_whole_books_followed).prog 49) (kwd := []) OB.ob_eq
    (by kernel_rfl) (fun s => by kernel_rfl) OB.run (by kernel_rfl) (by kernel_rfl) (by kernel_rfl) (by rfl) (by first | assumption | decide +kernel) (by decide +kernel) ⟨rfl, rfl, rfl, rfl, rfl, by decide +kernel⟩ ?hw ?hc
  case hw => w_witness2
  case hc =>
    refine Att.attach_callB (l := PySem.Challenge.rw_oldaddress_k51_whole_books_followed) (n := 63) rfl (by kernel_rfl) fun w s₀ s₁ mg mb fa o pm cd doc a vs ns G Y ho hd hcd hmg0 hobj hints hlen hbits hg => ?_
    obtain ⟨K, KX, S⟩ := Y
    have hmg : mg ("law" : PySem.Str) = some (.ref fa) := by
      have e : (HandSHeadRun.topDef (OpenLaw.row PySem.Challenge.rw_oldaddress_k51_whole_books_followed).prog 49).name = ("law" : PySem.Str) := by kernel_rfl
      rw [← e]
      exact hmg0
    exact OB.law_call0 OB.file_ok OB.top_ok KX S hmg G.T.g G.T.b G.T.builtins G.T.nolimit hg G.T.bmain hobj hints (Nat.le_trans hlen (by decide))

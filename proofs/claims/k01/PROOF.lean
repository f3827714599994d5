import PyProof.Rows.All
import Wide.All
import OpenK.AllK
import Wide.FinOn
import HandS.ForMost
import HandS.Wide
import HandS.IsInst
import PyProof.IsiBase
import PyProof.IsiStr
import KE.KExcSuper
import HandS.Exc
import HandS.ExcInit
import HandS.ForExc
import KE.GoesNew
import HandS.Iter
import HandS.Zip
import HandS.WordsExc
import HandS.OwnEq
import PyProof.InstEq
import HandS.Strs
import HandS.More
import HandS.SetKeys
import HandS.ListItems
import HandS.NoneIn
import HandS.ExcField
import HandS.Lambda
import HandS.Style
import HandS.MakeKwOnly
import HandS.DictComp
import PyProof.ReprRoads
import HandS.Defaults
import KE.KNestM
import HandS.HeadHook1
import HandS.HeadHook3
import HandS.HeadHook4
import KE.KStateDown
import Lean
import HandS.Head0
import HandS.Head1
import HandS.Head2
import Wide.Once
import HandS.EndTab
import PySem.Challenge.RW_oldaddress_k01_whole_lands_and_deeds
set_option Elab.async false
set_option linter.all false
set_option maxRecDepth 100000
set_option maxHeartbeats 0
set_option exponentiation.threshold 5000
/-! The draws of the laws by a source of three numbers. -/
namespace OB
open PySem PySem.Spec PyProof.Rows L2
def top (i : Nat) : Stmt := PySem.Challenge.pw_oldaddress_k01_whole_lands_and_deeds.main.body.getD i (.Pass ⟨0, 0, 0, 0⟩)
abbrev sCell : Stmt := top 46
abbrev sSource : Stmt := top 47
abbrev sDraw : Stmt := top 48
abbrev sPick : Stmt := top 49
abbrev sMixed : Stmt := top 50
/-- at p a source: three whole numbers -/
def Src (H : Hp) (p : Addr) : Prop := ∃ d s c : Int, H p = some (.lst [.int d, .int s, .int c])
/-- all but the source stands -/
def ButS (p : Addr) (H H' : Hp) : Prop := ∀ b o, b ≠ p → H b = some o → H' b = some o
theorem ButS.refl {p : Addr} {H : Hp} : ButS p H H := fun _ _ _ h => h
theorem ButS.trans {p : Addr} {H H1 H2 : Hp} (a : ButS p H H1) (b : ButS p H1 H2) : ButS p H H2 := fun x o n e => b x o n (a x o n e)
theorem ButS.same {p : Addr} {H H' : Hp} (a : Same H H') : ButS p H H' := fun x o _ e => a x o e
theorem ButS.put {p : Addr} {H : Hp} {u : HO} : ButS p H (upd H p u) := fun b o h e => by
  rw [upd_ne h]
  exact e
theorem Same.new {H : Hp} {q : Addr} {u : HO} (h : H q = none) : Same H (upd H q u) := fun b o e => by
  rw [upd_ne (ne_of_none e h)]
  exact e
def spCell (K : PySem.W.Frag) : Sp := fun vs H Q _ => ∃ (a : Addr) (k : Nat) (ns : List Int), vs = [.ref a, .int (k : Int)] ∧ SqL K H a (ns.map V.int) ∧ ∀ n : Int, Q (.int n) H
def spSource (K : PySem.W.Frag) : Sp := fun vs H Q _ => ∃ (a : Addr) (k : Nat) (ns : List Int), vs = [.ref a, .int (k : Int)] ∧ SqL K H a (ns.map V.int) ∧ ∀ H' p, H p = none → Same H H' → Src H' p → Q (.ref p) H'
def spDraw : Sp := fun vs H Q _ => ∃ (p : Addr) (many : Int), vs = [.ref p, .int many] ∧ Src H p ∧ 0 < many ∧ many.natAbs < 2 ^ 4096 ∧ ∀ H' n, ButS p H H' → Src H' p → 0 ≤ n → n < many → Q (.int n) H'
structure TxtD (mg : Str → Option Value) : Prop where
  abs : mg "abs" = none
  int : mg "int" = none
  sum : mg "sum" = none
  list : mg "list" = none
  len : mg "len" = none
  rng : mg "range" = none
section
variable {P : Program} {w : World} {K : PySem.W.Frag} {mg : Str → Option Value} {base : Heap}
theorem scCell : FnScope ["script", "k"] ["script", "k"] (defScope sCell) := ⟨rfl, rfl, rfl, by decide +kernel, rfl, by decide +kernel, by decide +kernel⟩
theorem ok_cell {f : Addr} {fd : FuncData} (F : Fun K "_law_cell" "_law_cell" sCell f fd) (T : TxtD mg) : FnOk P w K mg base CX0 1 f fd ["script", "k"] (spCell K) := by
  refine F.ok scCell (fun vs H Q E h => ?_) (fun cdv A outer s H vs Q E hr h => ?_)
  · obtain ⟨a, k, ns, rfl, _⟩ := h
    rfl
  · obtain ⟨a, k, ns, rfl, hs, q⟩ := h
    refine ⟨_, pss_one (ps_ret (pe_ifExp (pt_cmpR op_lt (pv 1) (pe_callB call_len_seq (by rfl) T.len PySem.boot_len (pa_cons (pv 0) pa_nil)) (nomark _)) (pe_ix ix_list (pv 0) (pv 1) (fun _ _ => rfl))
      (pe_op op_mod (pe_callTy call_int1 (by rfl) T.int (by decide +kernel) (pa_cons (pe_op op_add (pe_op op_add (pe_op op_mul (pe_callB (cr_sum rfl) (by rfl) T.sum (by decide +kernel) (pa_cons (pv 0) pa_nil)) pe_int) (pe_op op_mul pe_int (pv 1))) pe_int) pa_nil)) pe_int))), ?_⟩
    refine ⟨_, rfl, _, rfl, a, _, rfl, .inl hs, k, _, rfl, rfl, _, rfl, ?_⟩
    refine ite2 (fun h => ?_) (fun h => ?_)
    · have hk : k < ns.length := by
        have z := of_decide_eq_true h
        rw [List.length_map] at z
        omega
      refine ⟨_, rfl, _, rfl, a, _, k, .int ns[k], rfl, rfl, hs, atI_nat (by rw [List.getElem?_map, List.getElem?_eq_getElem hk] <;> rfl), q _⟩
    · refine ⟨_, rfl, a, ns, rfl, hs, _, 31, rfl, rfl, .inr ⟨by decide, by decide⟩, _, rfl, 7919, k, rfl, rfl, .inl ⟨by decide, by decide⟩, _, _, rfl, rfl, _, 13, rfl, rfl, .inl ⟨_, rfl, _, 1000003, rfl, rfl, (by show (0 : Int) < 1000003; decide), q _⟩⟩
end
end OB
namespace OB
open PySem PySem.Spec PyProof.Rows L2
section
variable {P : Program} {w : World} {K : PySem.W.Frag} {mg : Str → Option Value} {base : Heap}
theorem scSource : FnScope ["script", "k", "cell", "seed", "one"] ["script", "k"] (defScope sSource) := ⟨rfl, rfl, rfl, by decide +kernel, rfl, by decide +kernel, by decide +kernel⟩
theorem ok_source {f fC : Addr} {fd fdC : FuncData} (F : Fun K "_law_source" "_law_source" sSource f fd) (T : TxtD mg) (FC : Fun K "_law_cell" "_law_cell" sCell fC fdC) (gC : mg "_law_cell" = some (.ref fC)) : FnOk P w K mg base CX0 2 f fd ["script", "k"] (spSource K) := by
  have GC : FnOk P w K mg base CX0 1 fC fdC ["script", "k"] (spCell K) := ok_cell FC T
  have bC : Binds K fdC ["script", "k"] [] := FC.binds fun _ _ _ _ _ _ us hl => match us, hl with | [_, _], _ => rfl
  refine F.ok scSource (fun vs H Q E h => ?_) (fun cdv A outer s H vs Q E hr h => ?_)
  · obtain ⟨a, k, ns, rfl, _⟩ := h
    rfl
  · obtain ⟨a, k, ns, rfl, hs, q⟩ := h
    have nd := scSource.nd
    refine ⟨_, pss_cons (ps_par (i := 2) (j := 3) (by rfl) nd rfl rfl (by decide) rfl rfl (pa_cons (pe_callB call_abs (by rfl) T.abs (by decide +kernel) (pa_cons (pe_call GC hr (by rfl) gC FC.kp bC .nil pass0 (pa_cons (pv 0) (pa_cons (pv 1) pa_nil))) pa_nil)) (pa_cons (pe_op op_add pe_int (pe_op op_mul pe_int (pv 1))) pa_nil)) (by rfl))
      (pss_cons (ps_for PassesOwn.never rfl (pi_list (pe_slice sl_list (pv 0) po_none (po_some pe_int))) (pg_name (i := 4) nd rfl (Or.inl rfl))
        (pss_one (ps_set (i := 3) nd rfl (Or.inl rfl) (pe_op op_mod (pe_callTy call_int1 (by rfl) T.int (by decide +kernel) (pa_cons (pe_op op_add (pe_op op_add (pe_op op_mul (pv 3) pe_int) (pe_op op_mod (pe_callTy call_int1 (by rfl) T.int (by decide +kernel) (pa_cons (pv 4) pa_nil)) pe_int)) pe_int) pa_nil)) pe_int))))
      (pss_one (ps_ret (pe_lst (pa_cons (pe_ifExp (pt_cmpR op_ge (pv 2) (pe_op op_pow pe_int pe_int) (nomark _)) (pv 2) pe_int)
        (pa_cons (pe_op op_mod (pe_callTy call_int1 (by rfl) T.int (by decide +kernel) (pa_cons (pe_op op_add (pe_op op_add (pv 3) (pe_op op_mul (pv 2) pe_int)) (pe_op op_mul pe_int (pv 1))) pa_nil)) pe_int) (pa_cons pe_int pa_nil))))))), ?_⟩
    refine ⟨_, rfl, _, rfl, a, k, ns, rfl, hs, fun c => ?_⟩
    refine ⟨c, rfl, _, rfl, 31, k, rfl, rfl, .inl ⟨by decide, by decide⟩, 104729, _, rfl, rfl, _, _, rfl, ?_⟩
    refine ⟨_, rfl, 63, rfl, a, _, rfl, hs, fun b nb => ?_⟩
    have e1 : Same H (upd H b (.lst (cutV (ns.map V.int) none (some 63)))) := Same.new nb
    have hc : ∃ ms : List Int, cutV (ns.map V.int) none (some 63) = ms.map V.int := ⟨(ns.drop (HT.sIx ns.length 0 none)).take (HT.sIx ns.length ns.length (some 63) - HT.sIx ns.length 0 none), by simp [cutV, List.map_take, List.map_drop]⟩
    obtain ⟨ms, hm⟩ := hc
    rw [hm] at e1 ⊢
    refine ⟨b, rfl, ⟨_, SqL.of upd_same⟩, ?_⟩
    refine for_list (xs := ms.map V.int) (fun i σ H' => H' = upd H b (.lst (ms.map V.int)) ∧ ∃ (c s : Int) (o : Option V), σ = [some (.ref a), some (.int k), some (.int c), some (.int s), o]) ⟨rfl, _, _, _, rfl⟩ (fun i σ H' _ z => by rw [z.1]; exact SqL.of upd_same) ?_ ?_
    · rintro i v σ H' hv ⟨rfl, c, s, o, rfl⟩
      obtain ⟨m, hm, rfl⟩ : ∃ m, ms[i]? = some m ∧ v = .int m := by
        rw [List.getElem?_map] at hv
        obtain ⟨m, e, rfl⟩ := Option.map_eq_some_iff.mp hv
        exact ⟨m, e, rfl⟩
      refine ⟨_, rfl, s, 48271, rfl, rfl, .inr ⟨by decide, by decide⟩, _, rfl, .inl ⟨m, rfl, _, 2147483629, rfl, rfl, (by show (0 : Int) < 2147483629; decide), _, _, rfl, rfl, _, 7, rfl, rfl, .inl ⟨_, rfl, _, 2147483647, rfl, rfl, (by show (0 : Int) < 2147483647; decide), ?_⟩⟩⟩
      exact ⟨rfl, _, _, _, rfl⟩
    · rintro σ H' ⟨rfl, c, s, o, rfl⟩
      refine ⟨_, rfl, 10, 18, rfl, rfl, ⟨by decide, by decide, by decide⟩, c, _, rfl, rfl, _, rfl, ?_⟩
      generalize hG : upd H b (.lst (ms.map V.int)) = G at e1
      have fin : ∀ (d x : Int) (Q2 : VK), (∀ H' p, H p = none → Same H H' → Src H' p → Q2 (.ref p) H') → ∀ p, G p = none → Q2 (.ref p) (upd G p (.lst [.int d, .int x, .int 0])) := fun d x Q2 q p hp => by
        have hp0 : H p = none := e1.free hp
        exact q _ p hp0 (e1.trans (Same.new hp)) ⟨d, x, 0, upd_same⟩
      refine ite2 (fun h => ⟨_, rfl, ?_⟩) (fun h => ?_)
      · refine ⟨_, rfl, _, rfl, c, 40692, rfl, rfl, .inr ⟨by decide, by decide⟩, s, _, rfl, rfl, _, rfl, 977, k, rfl, rfl, .inl ⟨by decide, by decide⟩, _, _, rfl, rfl, .inl ⟨_, rfl, _, 2147483629, rfl, rfl, (by show (0 : Int) < 2147483629; decide), by show 3 ≤ sizeLine; decide, fun p hp => fin _ _ Q q p hp⟩⟩
      · refine ⟨_, rfl, _, rfl, c, 40692, rfl, rfl, .inr ⟨by decide, by decide⟩, s, _, rfl, rfl, _, rfl, 977, k, rfl, rfl, .inl ⟨by decide, by decide⟩, _, _, rfl, rfl, .inl ⟨_, rfl, _, 2147483629, rfl, rfl, (by show (0 : Int) < 2147483629; decide), by show 3 ≤ sizeLine; decide, fun p hp => fin _ _ Q q p hp⟩⟩
end
end OB
namespace OB
open PySem PySem.Spec PyProof.Rows L2
section
variable {P : Program} {w : World} {K : PySem.W.Frag} {mg : Str → Option Value} {base : Heap}
theorem scDraw : FnScope ["source", "many", "digit", "seed"] ["source", "many"] (defScope sDraw) := ⟨rfl, rfl, rfl, by decide +kernel, rfl, by decide +kernel, by decide +kernel⟩
theorem ok_draw {f : Addr} {fd : FuncData} (F : Fun K "_law_draw" "_law_draw" sDraw f fd) (T : TxtD mg) : FnOk P w K mg base CX0 1 f fd ["source", "many"] spDraw := by
  refine F.ok scDraw (fun vs H Q E h => ?_) (fun cdv A outer s H vs Q E hr h => ?_)
  · obtain ⟨p, many, rfl, _⟩ := h
    rfl
  · obtain ⟨p, many, rfl, ⟨d, sd, c, S⟩, hm, hm2, k⟩ := h
    have nd := scDraw.nd
    refine ⟨_, pss_cons (ps_if (pt_cmpR op_gt (pe_ix ix_list (pv 0) pe_int (fun _ _ => rfl)) pe_int (nomark _))
        (pss_cons (ps_set (i := 2) nd rfl (Or.inl rfl) (pe_op op_mod (pe_callTy call_int1 (by rfl) T.int (by decide +kernel) (pa_cons (pe_ix ix_list (pv 0) pe_int (fun _ _ => rfl)) pa_nil)) (pv 1)))
        (pss_cons (ps_asg (pe_op op_fdivW (pe_ix ix_list (pv 0) pe_int (fun _ _ => rfl)) (pv 1)) (pg_sub (pv 0) pe_int set_list))
        (pss_one (ps_ret (pv 2))))) pss_nil)
      (pss_cons (ps_asg (pe_op op_add (pe_ix ix_list (pv 0) pe_int (fun _ _ => rfl)) pe_int) (pg_sub (pv 0) pe_int set_list))
      (pss_cons (ps_set (i := 3) nd rfl (Or.inl rfl) (pe_op op_mod (pe_callTy call_int1 (by rfl) T.int (by decide +kernel) (pa_cons (pe_op op_add (pe_ix ix_list (pv 0) pe_int (fun _ _ => rfl)) (pe_op op_mul pe_int (pe_ix ix_list (pv 0) pe_int (fun _ _ => rfl)))) pa_nil)) pe_int))
      (pss_cons (ps_set (i := 3) nd rfl (Or.inl rfl) (pe_op op_mod (pe_callTy call_int1 (by rfl) T.int (by decide +kernel) (pa_cons (pe_op op_add (pe_op op_pow (pv 3) pe_int) (pe_ix ix_list (pv 0) pe_int (fun _ _ => rfl))) pa_nil)) pe_int))
      (pss_one (ps_ret (pe_op op_mod (pe_op op_fdiv (pe_op op_mod (pe_callTy call_int1 (by rfl) T.int (by decide +kernel) (pa_cons (pe_op op_add (pe_op op_mul (pv 3) pe_int) (pe_op op_mul pe_int (pe_ix ix_list (pv 0) pe_int (fun _ _ => rfl)))) pa_nil)) pe_int) pe_int) (pv 1))))))), ?_⟩
    refine ⟨_, rfl, p, _, 0, .int d, rfl, rfl, SqL.of S, rfl, d, 0, rfl, rfl, _, rfl, ?_⟩
    refine ite2 (fun h => ?_) (fun h => ?_)
    · refine ⟨_, rfl, p, _, 0, .int d, rfl, rfl, SqL.of S, rfl, .inl ⟨d, rfl, _, rfl, d, many, rfl, rfl, hm, ?_⟩⟩
      refine ⟨_, rfl, p, _, 0, .int d, rfl, rfl, SqL.of S, rfl, _, rfl, d, many, rfl, rfl, wide_div hm hm2 (by decide) (by decide), _, rfl, p, _, 0, 0, rfl, rfl, S, rfl, ?_⟩
      exact ⟨_, rfl, k _ (d % many) ButS.put ⟨_, _, _, upd_same⟩ (Int.emod_nonneg _ (by omega)) (Int.emod_lt_of_pos _ hm)⟩
    · refine ⟨_, rfl, p, _, 2, .int c, rfl, rfl, SqL.of S, rfl, c, 1, rfl, rfl, _, rfl, p, _, 2, 2, rfl, rfl, S, rfl, ?_⟩
      have B : ButS p H (upd H p (.lst [.int d, .int sd, .int (c + 1)])) := ButS.put
      have S2 : (upd H p (.lst [.int d, .int sd, .int (c + 1)])) p = some (.lst [.int d, .int sd, .int (c + 1)]) := upd_same
      show tSeq _ _ _ _ (upd H p (.lst [.int d, .int sd, .int (c + 1)]))
      generalize upd H p (.lst [.int d, .int sd, .int (c + 1)]) = H2 at B S2 ⊢
      refine ⟨_, rfl, p, _, 1, .int sd, rfl, rfl, SqL.of S2, rfl, _, rfl, p, _, 2, .int (c + 1), rfl, rfl, SqL.of S2, rfl, 15485863, c + 1, rfl, rfl, .inl ⟨by decide, by decide⟩, sd, _, rfl, rfl, .inl ⟨_, rfl, _, 2147483629, rfl, rfl, (by show (0 : Int) < 2147483629; decide), ?_⟩⟩
      have x1 := Int.emod_nonneg (sd + 15485863 * (c + 1)) (show (2147483629 : Int) ≠ 0 by decide)
      have x2 := Int.emod_lt_of_pos (sd + 15485863 * (c + 1)) (show (0 : Int) < 2147483629 by decide)
      show tSeq _ _ _ ([some (.ref p), some (.int many), none, some (V.int ((sd + 15485863 * (c + 1)) % 2147483629))]) H2
      generalize (sd + 15485863 * (c + 1)) % 2147483629 = x at x1 x2 ⊢
      refine ⟨_, rfl, x, 5, rfl, rfl, ⟨by decide, by decide, by omega⟩, _, rfl, p, _, 2, .int (c + 1), rfl, rfl, SqL.of S2, rfl, _, c + 1, rfl, rfl, .inl ⟨_, rfl, _, 2147483647, rfl, rfl, (by show (0 : Int) < 2147483647; decide), ?_⟩⟩
      refine ⟨_, rfl, _, 39373, rfl, rfl, .inr ⟨by decide, by decide⟩, _, rfl, p, _, 2, .int (c + 1), rfl, rfl, SqL.of S2, rfl, 7907, c + 1, rfl, rfl, .inl ⟨by decide, by decide⟩, _, _, rfl, rfl, .inl ⟨_, rfl, _, 2147483629, rfl, rfl, (by show (0 : Int) < 2147483629; decide), _, 64, rfl, rfl, ⟨by decide, by decide⟩, _, rfl, _, many, rfl, rfl, hm, ?_⟩⟩
      exact k _ _ B ⟨_, _, _, S2⟩ (Int.emod_nonneg _ (by omega)) (Int.emod_lt_of_pos _ hm)
end
end OB
namespace OB
open PySem PySem.Spec PyProof.Rows L2
theorem SqL.but {K : PySem.W.Frag} {p t : Addr} {H H' : Hp} {xs : List V} (h : SqL K H t xs) (n : t ≠ p) (b : ButS p H H') : SqL K H' t xs := by
  rcases h with (h | ⟨o, h⟩) | h
  · exact .inl (.inl (b _ _ n h))
  · exact .inl (.inr ⟨o, b _ _ n h⟩)
  · exact .inr h
theorem Src.but {p : Addr} {H : Hp} {q : Addr} {u : HO} (h : Src H p) (n : H q = none) : Src (upd H q u) p := by
  obtain ⟨d, s, c, h⟩ := h
  exact ⟨d, s, c, by rw [upd_ne (ne_of_none h n)]; exact h⟩
theorem Src.ne {p : Addr} {H : Hp} {q : Addr} (h : Src H p) (n : H q = none) : q ≠ p := fun z => by
  obtain ⟨d, s, c, h⟩ := h
  rw [z, h] at n
  cases n
theorem Src.put {p : Addr} {H : Hp} {q : Addr} {u : HO} (h : Src H p) (n : q ≠ p) : Src (upd H q u) p := by
  obtain ⟨d, s, c, h⟩ := h
  exact ⟨d, s, c, by rw [upd_ne n.symm]; exact h⟩
def spPick (K : PySem.W.Frag) : Sp := fun vs H Q _ => ∃ (p t : Addr) (xs : List V), vs = [.ref p, .ref t] ∧ Src H p ∧ SqL K H t xs ∧ t ≠ p ∧ 0 < xs.length ∧ xs.length < 1000000 ∧
  ∀ H' (j : Nat) x, ButS p H H' → Src H' p → xs[j]? = some x → Q x H'
def spMixed (K : PySem.W.Frag) : Sp := fun vs H Q _ => ∃ (p t : Addr) (xs : List V), vs = [.ref p, .ref t] ∧ Src H p ∧ SqL K H t xs ∧ t ≠ p ∧ xs.length < 1000 ∧
  ∀ H' D ys, ButS p H H' → Src H' p → H D = none → H' D = some (.lst ys) → ys.Perm xs → Q (.ref D) H'
theorem small_many {n : Nat} (h : n < 1000000) : ((n : Int)).natAbs < 2 ^ 4096 := by
  have e : ((n : Int)).natAbs = n := Int.natAbs_natCast n
  rw [e]
  exact Nat.lt_of_lt_of_le h (Nat.le_trans (by decide : 1000000 ≤ 2 ^ 20) (Nat.pow_le_pow_right (by decide) (by decide)))
section
variable {P : Program} {w : World} {K : PySem.W.Frag} {mg : Str → Option Value} {base : Heap}
theorem scPick : FnScope ["source", "some"] ["source", "some"] (defScope sPick) := ⟨rfl, rfl, rfl, by decide +kernel, rfl, by decide +kernel, by decide +kernel⟩
theorem ok_pick {f fD : Addr} {fd fdD : FuncData} (F : Fun K "_law_pick" "_law_pick" sPick f fd) (T : TxtD mg) (FD : Fun K "_law_draw" "_law_draw" sDraw fD fdD) (gD : mg "_law_draw" = some (.ref fD)) : FnOk P w K mg base CX0 2 f fd ["source", "some"] (spPick K) := by
  have GD : FnOk P w K mg base CX0 1 fD fdD ["source", "many"] spDraw := ok_draw FD T
  have bD : Binds K fdD ["source", "many"] [] := FD.binds fun _ _ _ _ _ _ us hl => match us, hl with | [_, _], _ => rfl
  refine F.ok scPick (fun vs H Q E h => ?_) (fun cdv A outer s H vs Q E hr h => ?_)
  · obtain ⟨p, t, xs, rfl, _⟩ := h
    rfl
  · obtain ⟨p, t, xs, rfl, S, ht, nt, x1, x2, k⟩ := h
    refine ⟨_, pss_one (ps_ret (pe_ix ix_list (pv 1) (pe_call GD hr (by rfl) gD FD.kp bD .nil pass0 (pa_cons (pv 0) (pa_cons (pe_callB call_len_seq (by rfl) T.len PySem.boot_len (pa_cons (pv 1) pa_nil)) pa_nil))) (fun _ _ => rfl))), ?_⟩
    refine ⟨_, rfl, _, rfl, _, rfl, t, xs, rfl, .inl ht, p, (xs.length : Int), rfl, S, by omega, small_many x2, fun H' n B S' h1 h2 => ?_⟩
    have e : (n.toNat : Int) = n := Int.toNat_of_nonneg h1
    have hj : n.toNat < xs.length := by omega
    obtain ⟨x, q⟩ : ∃ x, xs[n.toNat]? = some x := ⟨_, List.getElem?_eq_getElem hj⟩
    exact ⟨t, xs, n, x, rfl, rfl, SqL.but ht nt B, e ▸ atI_nat q, k _ _ _ B S' q⟩
theorem scMixed : FnScope ["source", "some", "left", "found", "k"] ["source", "some"] (defScope sMixed) := ⟨rfl, rfl, rfl, by decide +kernel, rfl, by decide +kernel, by decide +kernel⟩
theorem perm_erase : ∀ (ls : List V) (j : Nat) (h : j < ls.length), (ls[j] :: ls.eraseIdx j).Perm ls
  | _ :: _, 0, _ => List.Perm.refl _
  | a :: ls, j + 1, h => by
    have ih := perm_erase ls j (Nat.lt_of_succ_lt_succ h)
    show (ls[j]'(Nat.lt_of_succ_lt_succ h) :: a :: ls.eraseIdx j).Perm (a :: ls)
    exact (List.Perm.swap a _ _).trans (ih.cons a)
theorem perm_move {fs ls xs : List V} {j : Nat} {y : V} (p : (fs ++ ls).Perm xs) (h : ls[j]? = some y) : ((fs ++ [y]) ++ ls.eraseIdx j).Perm xs := by
  obtain ⟨hj, rfl⟩ := List.getElem?_eq_some_iff.mp h
  refine List.Perm.trans ?_ p
  rw [List.append_assoc]
  refine List.Perm.append_left fs ?_
  exact perm_erase ls j hj
theorem ok_mixed {f fD : Addr} {fd fdD : FuncData} (F : Fun K "_law_mixed" "_law_mixed" sMixed f fd) (T : TxtD mg) (FD : Fun K "_law_draw" "_law_draw" sDraw fD fdD) (gD : mg "_law_draw" = some (.ref fD)) : FnOk P w K mg base CX0 2 f fd ["source", "some"] (spMixed K) := by
  have GD : FnOk P w K mg base CX0 1 fD fdD ["source", "many"] spDraw := ok_draw FD T
  have bD : Binds K fdD ["source", "many"] [] := FD.binds fun _ _ _ _ _ _ us hl => match us, hl with | [_, _], _ => rfl
  refine F.ok scMixed (fun vs H Q E h => ?_) (fun cdv A outer s H vs Q E hr h => ?_)
  · obtain ⟨p, t, xs, rfl, _⟩ := h
    rfl
  · obtain ⟨p, t, xs, rfl, S, ht, nt, x2, k⟩ := h
    have nd := scMixed.nd
    refine ⟨_, pss_cons (ps_par (i := 2) (j := 3) (by rfl) nd rfl rfl (by decide) rfl rfl (pa_cons (pe_callTy call_list_of (by rfl) T.list (by decide +kernel) (pa_cons (pv 1) pa_nil)) (pa_cons (pe_lst pa_nil) pa_nil)) (by rfl))
      (pss_cons (ps_for PassesOwn.never rfl (pi_range1 (by rfl) T.rng (pa_cons (pe_callB call_len_seq (by rfl) T.len PySem.boot_len (pa_cons (pv 1) pa_nil)) pa_nil)) (pg_name (i := 4) nd rfl (Or.inl rfl))
        (pss_one (ps_expr (pe_bm PySem.F.plainAttrs_list PySem.F.slot_list_append PySem.F.type_list_append mt_append (pv 3)
          (pa_cons (pe_bm PySem.F.plainAttrs_list PySem.F.slot_list_pop PySem.F.type_list_pop mt_popAt (pv 2) (pa_cons (pe_call GD hr (by rfl) gD FD.kp bD .nil pass0 (pa_cons (pv 0) (pa_cons (pe_callB call_len_seq (by rfl) T.len PySem.boot_len (pa_cons (pv 2) pa_nil)) pa_nil))) pa_nil)) pa_nil)))))
      (pss_one (ps_ret (pv 3)))), ?_⟩
    refine ⟨_, rfl, t, xs, rfl, .inl ht, fun l nl => ?_⟩
    refine ⟨Nat.zero_le _, fun D nD => ?_⟩
    have lD : l ≠ D := ne_of_none (o := .lst xs) upd_same nD
    have Dp : D ≠ p := (S.but nl).ne nD
    have lp : l ≠ p := S.ne nl
    have nD0 : H D = none := by
      rw [upd_ne lD.symm] at nD
      exact nD
    have e1 : Same H (upd (upd H l (.lst xs)) D (.lst [])) := (Same.new nl).trans (Same.new nD)
    have S1 : Src (upd (upd H l (.lst xs)) D (.lst [])) p := (S.but nl).but nD
    have hl1 : (upd (upd H l (.lst xs)) D (.lst [])) l = some (.lst xs) := by rw [upd_ne lD, upd_same]
    have hD1 : (upd (upd H l (.lst xs)) D (.lst [])) D = some (.lst []) := upd_same
    generalize upd (upd H l (.lst xs)) D (.lst []) = H1 at e1 S1 hl1 hD1
    have ht1 : SqL K H1 t xs := SqL.but ht nt (ButS.same e1)
    refine ⟨_, _, rfl, _, rfl, t, xs, rfl, .inl ht1, (xs.length : Int), rfl, by omega, by omega, ?_⟩
    refine for_range (n := ((xs.length : Int)).toNat) (fun i σ H' => ∃ (fs ls : List V) (o : Option V), σ = [some (.ref p), some (.ref t), some (.ref l), some (.ref D), o] ∧ H' l = some (.lst ls) ∧ H' D = some (.lst fs) ∧ (fs ++ ls).Perm xs ∧ ls.length + i = xs.length ∧ fs.length = i ∧ ButS p H H' ∧ Src H' p)
      ⟨[], xs, _, rfl, hl1, hD1, List.Perm.refl _, by omega, rfl, ButS.same e1, S1⟩ ?_ ?_
    · rintro i σ H' hi ⟨fs, ls, o, rfl, hl, hD, pm, e, e2, B, S'⟩
      have hi' : i < xs.length := by omega
      refine ⟨_, rfl, .inl ⟨rfl, _, SqL.of hD⟩, _, rfl, .inl ⟨rfl, _, SqL.of hl⟩, _, rfl, _, rfl, l, ls, rfl, .inl (SqL.of hl), p, (ls.length : Int), rfl, S', by omega, small_many (by omega), fun H2 n B2 S2 h1 h2 => ?_⟩
      have hl2 : H2 l = some (.lst ls) := B2 _ _ lp hl
      have hD2 : H2 D = some (.lst fs) := B2 _ _ Dp hD
      have hj : n.toNat < ls.length := by omega
      obtain ⟨y, hy⟩ : ∃ y, ls[n.toNat]? = some y := ⟨_, List.getElem?_eq_getElem hj⟩
      refine ⟨l, ls, n, n.toNat, y, rfl, rfl, hl2, by omega, by omega, seqIndex_of h1 h2, hy, ?_⟩
      refine ⟨D, fs, y, rfl, rfl, by rw [upd_ne lD.symm]; exact hD2, by rw [sizeLine_eq]; omega, ?_⟩
      refine ⟨fs ++ [y], ls.eraseIdx n.toNat, _, rfl, by rw [upd_ne lD, upd_same], upd_same, perm_move pm hy, ?_, by rw [List.length_append, e2] <;> rfl, fun b o nb hb => ?_, (S2.put lp).put Dp⟩
      · rw [List.length_eraseIdx_of_lt hj]
        omega
      · have bl : b ≠ l := fun z => by
          rw [z, nl] at hb
          cases hb
        have bD : b ≠ D := fun z => by
          rw [z, nD0] at hb
          cases hb
        rw [upd_ne bD, upd_ne bl]
        exact B2 _ _ nb (B _ _ nb hb)
    · rintro σ H' ⟨fs, ls, o, rfl, hl, hD, pm, e, e2, B, S'⟩
      have l0 : ls = [] := List.length_eq_zero_iff.mp (by omega)
      subst l0
      rw [List.append_nil] at pm
      exact ⟨_, rfl, k _ _ _ B S' nD0 hD pm⟩
end
end OB
namespace OB
open PySem PySem.Spec PyProof.Rows
open Sem (wp)
/-! ### isinstance of a def -/
theorem fn_class : typeLookup (.type "function") "__class__" = pure (some (.builtin "object.__class__")) := by
  rw [typeLookup_type, builtinLookup_eq_fast]
  kernel_rfl
theorem fn_owner : isSubtype (.type "function") (.type (".".intercalate ("object.__class__".cutAt '.').dropLast)) = pure true := by
  rw [F.owner_object_class, isSubtype_type]
  kernel_rfl
theorem fn_slot : Slot "function" "__getattribute__" "object.__getattribute__" := by
  refine Slot.of (owner := "object") (n := "__getattribute__") ?_ (by decide +kernel) (by decide +kernel) (by decide +kernel) ?_ ?_
  · rw [typeLookup_type, builtinLookup_eq_fast]
    kernel_rfl
  · first
      | exact .inl (by decide +kernel)
      | exact .inr (by decide +kernel)
  · rw [isSubtype_type]
    kernel_rfl
section
variable {prog : Program} {w : World} {A : Around} {E : Value → Shared → Prop} {h : Heap} {g : Array GenState} {d : Drawn} {t : Nat} {os : OsState} {a : Addr} {o : Obj}
theorem fn_get {R : Result → Shared → Prop} (hx : h.get? a = some o) (hc : o.cls = .type "function") (hq : R (.ok (.ret (.type "function"))) ⟨h, g, d, t, os⟩) :
    codeAny (model prog w) A (.call (.builtin "getset_descriptor.__get__") ⟨[.builtin "object.__class__", .ref a, .type "function"], []⟩) R ⟨h, g, d, t, os⟩ := by
  have isF : (⟨h, g, d, t, os⟩ : Shared).TypeIs (.ref a) "function" := ⟨_, hx, hc⟩
  have isD : (⟨h, g, d, t, os⟩ : Shared).TypeIs (.builtin "object.__class__") "getset_descriptor" := F.typeOf_object_class
  have own := fn_owner
  refine codeAny_call_builtin F.slot_gs_get.plain F.entry_gs_get (F.slot_gs_get.check _ _ _ _ _ _ _ _ isD (F.args_gs_get _ _ _) ?_)
  repeat any_goals first | assumption | wp_step
  refine ⟨Code.quiet_builtin _ (by decide +kernel), codeAny_builtin F.entry_object_class ?_⟩
  repeat any_goals first | assumption | wp_step
theorem fn_entry {tk : Tok} {Q : Fin → Shared → Prop} (hx : h.get? a = some o) (hc : o.cls = .type "function") (hq : Q (.done (.ret (.type "function"))) ⟨h, g, d, t, os⟩) :
    wpAny (model prog w) A (Builtin.«object.__getattribute__» ⟨[.ref a, .str "__class__" tk], []⟩) Q E ⟨h, g, d, t, os⟩ := by
  have isF : (⟨h, g, d, t, os⟩ : Shared).TypeIs (.ref a) "function" := ⟨_, hx, hc⟩
  have isD : (⟨h, g, d, t, os⟩ : Shared).TypeIs (.builtin "object.__class__") "getset_descriptor" := F.typeOf_object_class
  have k1 := fn_class
  have k2 := F.typeOf_object_class
  have k3 := F.slot_gs_get.lookup
  have k4 := F.slot_gs_set.lookup
  repeat any_goals first | assumption | wp_step
  refine fn_get hx hc ?_
  repeat any_goals first | assumption | wp_step
theorem fn_call {tk : Tok} {R : Result → Shared → Prop} (hx : h.get? a = some o) (hc : o.cls = .type "function") (hq : R (.ok (.ret (.type "function"))) ⟨h, g, d, t, os⟩) :
    codeAny (model prog w) A (.call (.builtin "object.__getattribute__") ⟨[.ref a, .str "__class__" tk], []⟩) R ⟨h, g, d, t, os⟩ := by
  have isF : (⟨h, g, d, t, os⟩ : Shared).TypeIs (.ref a) "function" := ⟨_, hx, hc⟩
  exact codeAny_call_builtin fn_slot.plain F.entry_object_getattribute (fn_slot.check _ _ _ _ _ _ _ _ isF (F.args_object_getattribute_2 _ _) (fn_entry hx hc hq))
theorem fn_by {tk : Tok} {Q : Value → Shared → Prop} (hx : h.get? a = some o) (hc : o.cls = .type "function") (hq : Q (.type "function") ⟨h, g, d, t, os⟩) : wpAny (model prog w) A (getAttrBy (.ref a) (.str "__class__" tk) false) Q E ⟨h, g, d, t, os⟩ := by
  have isF : (⟨h, g, d, t, os⟩ : Shared).TypeIs (.ref a) "function" := ⟨_, hx, hc⟩
  have k1 := fn_slot.lookup
  have k2 := fn_slot.bind (.ref a)
  repeat any_goals first | assumption | wp_step
  refine fn_call hx hc ?_
  repeat any_goals first | assumption | wp_step
theorem fn_attr {Q : Option Value → Shared → Prop} (hx : h.get? a = some o) (hc : o.cls = .type "function") (hq : Q (some (.type "function")) ⟨h, g, d, t + 1, os⟩) : wpAny (model prog w) A (getAttr? (.ref a) "__class__") Q E ⟨h, g, d, t, os⟩ := by
  unfold getAttr? getAttrBy?
  repeat any_goals first | assumption | with_reducible apply fn_by hx hc | wp_step
theorem kit_fn {K : PySem.W.Frag} {a : Addr} : PySem.W.KitX K (.ref a) (.type "function") (PySem.W.KitAt a "function") := PySem.W.kitx_of PySem.W.kitAt_ty (fun {_ _ _ _ _ s} p k => by
  obtain ⟨h, g, d, t, os⟩ := s
  obtain ⟨o, h1, h2⟩ := p
  exact fn_attr h1 h2 k)
end
end OB
namespace OB
open PySem PySem.Spec PyProof.Rows L2
/-! ### any object of the laws -/
/-- an own class whose instances stand about: no kind of a number, of a text, of a row -/
structure OwnC (K : PySem.W.Frag) (C : Addr) : Prop where
  cl : Cls K C
  ha : PySem.W.findIn K (.ref C) "__class__" = some (some (.builtin "object.__class__"))
  hn : PySem.W.specialIn K (.builtin "object.__class__") "__get__" = some (some (.builtin "getset_descriptor.__get__"))
  htk : PySem.W.takesIn K (.builtin "object.__class__") = some true
  hm : PySem.W.mroIn K C (.type "object") = some true
  no : ∀ T ∈ ["int", "bool", "str", "list", "tuple", "dict"], PySem.W.kitOne K (.ref C) (.type T) = some false
inductive Kd where
  | non | bl | int | str | lst | tup | dct | fn | ins
  deriving DecidableEq
inductive Any (K : PySem.W.Frag) (H : Hp) : V → Kd → Prop where
  | non : Any K H .non .non
  | bl (b : Bool) : Any K H (.bl b) .bl
  | int (i : Int) : Any K H (.int i) .int
  | str {x : Str} (h : x.length ≤ 100) : Any K H (.str x) .str
  | lst {a : Addr} {xs : List V} : H a = some (.lst xs) → Any K H (.ref a) .lst
  | tup {a : Addr} {xs : List V} : H a = some (.tup xs) → Any K H (.ref a) .tup
  | dct {a : Addr} {kvs : List (Key × V)} : H a = some (.dK kvs) → Any K H (.ref a) .dct
  | fn {a : Addr} {o : Obj} : K.lookup a = some o → o.cls = .type "function" → Any K H (.ref a) .fn
  | ins {a C dx : Addr} {fs : List (Str × V)} : H a = some (.ins C dx fs) → OwnC K C → Any K H (.ref a) .ins
theorem Any.same {K : PySem.W.Frag} {H H' : Hp} {v : V} {k : Kd} (h : Any K H v k) (e : Same H H') : Any K H' v k := by
  cases h with
  | non => exact .non
  | bl b => exact .bl b
  | int i => exact .int i
  | str h => exact .str h
  | lst q => exact .lst (e _ _ q)
  | tup q => exact .tup (e _ _ q)
  | dct q => exact .dct (e _ _ q)
  | fn q c => exact .fn q c
  | ins q o => exact .ins (e _ _ q) o
def Kd.isInt (k : Kd) : Bool := match k with
  | .int => true
  | _ => false
def Kd.isBl (k : Kd) : Bool := match k with
  | .bl => true
  | _ => false
def Kd.isStr (k : Kd) : Bool := match k with
  | .str => true
  | _ => false
def Kd.isLst (k : Kd) : Bool := match k with
  | .lst => true
  | _ => false
def Kd.isTup (k : Kd) : Bool := match k with
  | .tup => true
  | _ => false
def Kd.isDct (k : Kd) : Bool := match k with
  | .dct => true
  | _ => false
/-- a value's kind -/
inductive TyA (K : PySem.W.Frag) (H : Hp) : V → Value → Prop where
  | x {v : V} {t : Value} (h : TyX K H v t) : TyA K H v t
  | fn {a : Addr} {o : Obj} (e : K.lookup a = some o) (c : o.cls = .type "function") : TyA K H (.ref a) (.type "function")
def rIsA (K : PySem.W.Frag) : List V → Hp → VK → Prop := fun xs H Q => ∃ (x c : V) (t u : Value) (b : Bool), xs = [x, c] ∧ ClsV c u ∧ TyA K H x t ∧ PySem.W.kitOne K t u = some b ∧ Q (.bl b) H
def rIsAT (K : PySem.W.Frag) : List V → Hp → VK → Prop := fun xs H Q => ∃ (x : V) (tp : Addr) (cs : List V) (t : Value) (us : List Value) (b : Bool), xs = [x, .ref tp] ∧ H tp = some (.tup cs) ∧ Paired ClsV cs us ∧ TyA K H x t ∧ PySem.W.kitAny K t us = some b ∧ Q (.bl b) H
section
variable {X : Cx} {pins : List (Addr × Obj)} {σ : L2.St} {H : Hp} {s : Shared}
theorem kitA_of {x : V} {u t : Value} (I : Inv X pins σ H s) (rx : RelV x u) (ty : TyA X.K H x t) : ∃ P : Heap → Prop, PySem.W.KitX X.K u t P ∧ P s.heap ∧ u ≠ .builtin "__main__.__loader__#opaque" := by
  cases ty with
  | x h => exact kit_of I rx h
  | @fn a o e c =>
    cases (show u = Value.ref a from rx)
    exact ⟨_, kit_fn, ⟨o, I.kIn a o e, c⟩, fun z => nomatch z⟩
theorem call_isA : CallR X (.builtin "isinstance") (rIsA X.K) := by
  intro pins s σ H xs us Q I r h
  obtain ⟨x, c, t, u, b, rfl, k, ty, e, q⟩ := h
  obtain ⟨u1, u2, rfl, r1, r2⟩ := vals2 r
  obtain rfl := k.eq r2
  obtain ⟨P, Z, p, hx⟩ := kitA_of I r1 ty
  exact PySem.W.kia_one Z I.kIn p e hx fun tk => ⟨.bl b, H, I.tok tk, rfl, q⟩
theorem call_isAT : CallR X (.builtin "isinstance") (rIsAT X.K) := by
  intro pins s σ H xs us Q I r h
  obtain ⟨x, tp, cs, t, ws, b, rfl, hT, k, ty, e, q⟩ := h
  obtain ⟨u1, u2, rfl, r1, r2⟩ := vals2 r
  cases (show u2 = Value.ref tp from r2)
  obtain ⟨P, Z, p, hx⟩ := kitA_of I r1 ty
  obtain ⟨_, its, rv, o, h1, h2, n, h3⟩ := (show ObjOk X.prog X.w H s.heap tp (.tup cs) from I.hok tp _ hT)
  obtain rfl := ClsV.all k rv
  obtain ⟨oc, od, dt, sl⟩ := o
  simp only at h2 h3
  subst h2 h3
  exact PySem.W.kia_tup Z I.kIn p h1 e hx fun tk => ⟨.bl b, H, I.tok tk, rfl, q⟩
end
/-- what isinstance answers of such an object -/
structure Says6 (K : PySem.W.Frag) (H : Hp) (v : V) (k : Kd) (t : Value) : Prop where
  ty : TyA K H v t
  int : PySem.W.kitOne K t (.type "int") = some (k.isInt || k.isBl)
  bool : PySem.W.kitOne K t (.type "bool") = some k.isBl
  str : PySem.W.kitOne K t (.type "str") = some k.isStr
  list : PySem.W.kitOne K t (.type "list") = some k.isLst
  tuple : PySem.W.kitOne K t (.type "tuple") = some k.isTup
  dict : PySem.W.kitOne K t (.type "dict") = some k.isDct
theorem tyA6 {K : PySem.W.Frag} {H : Hp} {v : V} {k : Kd} {T : String} (h : TyA K H v (.type T)) (a : kitB T "int" = some (k.isInt || k.isBl) ∧ kitB T "bool" = some k.isBl ∧ kitB T "str" = some k.isStr ∧ kitB T "list" = some k.isLst ∧ kitB T "tuple" = some k.isTup ∧ kitB T "dict" = some k.isDct) : Says6 K H v k (.type T) :=
  ⟨h, kit_ty a.1, kit_ty a.2.1, kit_ty a.2.2.1, kit_ty a.2.2.2.1, kit_ty a.2.2.2.2.1, kit_ty a.2.2.2.2.2⟩
theorem Any.says {K : PySem.W.Frag} {H : Hp} {v : V} {k : Kd} (h : Any K H v k) : ∃ t, Says6 K H v k t := by
  cases h with
  | non => exact ⟨_, tyA6 (.x (.base .non)) (by decide +kernel)⟩
  | bl b => exact ⟨_, tyA6 (.x (.base (.bl b))) (by decide +kernel)⟩
  | int i => exact ⟨_, tyA6 (.x (.base (.int i))) (by decide +kernel)⟩
  | @str x h => exact ⟨_, tyA6 (.x (.base (.str x))) (by decide +kernel)⟩
  | lst e => exact ⟨_, tyA6 (.x (.base (.lst e))) (by decide +kernel)⟩
  | tup e => exact ⟨_, tyA6 (.x (.base (.tup e))) (by decide +kernel)⟩
  | dct e => exact ⟨_, tyA6 (.x (.base (.dK e))) (by decide +kernel)⟩
  | fn e c => exact ⟨_, tyA6 (.fn e c) (by decide +kernel)⟩
  | @ins a C dx fs e o => exact ⟨.ref C, .x (.base (.ins e o.cl o.ha o.hn o.htk o.hm)), o.no _ (by simp), o.no _ (by simp), o.no _ (by simp), o.no _ (by simp), o.no _ (by simp), o.no _ (by simp)⟩
theorem Says6.seq {K : PySem.W.Frag} {H : Hp} {v : V} {k : Kd} {t : Value} (h : Says6 K H v k t) : PySem.W.kitAny K t [.type "list", .type "tuple"] = some (k.isLst || k.isTup) :=
  kitAny_cons h.list (fun e => by rw [e]; exact kitAny_cons h.tuple (fun e2 => by rw [e2]; rfl) fun e2 => by rw [e2]; rfl) fun e => by rw [e]; rfl
end OB
namespace OB
open PySem PySem.Spec PyProof.Rows L2
/-! ### the program's small questions -/
abbrev sIsInt : Stmt := top 5
abbrev sIsNum : Stmt := top 6
abbrev sIsOne : Stmt := top 7
abbrev sIsList : Stmt := top 8
abbrev sIsName : Stmt := top 9
abbrev sIsWord : Stmt := top 10
theorem bootIsi : bootBuiltins "isinstance" = some (.builtin "isinstance") := by decide +kernel
theorem bInt : bootBuiltins "int" = some (.type "int") := by decide +kernel
theorem bBool : bootBuiltins "bool" = some (.type "bool") := by decide +kernel
theorem bStr : bootBuiltins "str" = some (.type "str") := by decide +kernel
theorem bList : bootBuiltins "list" = some (.type "list") := by decide +kernel
theorem bTuple : bootBuiltins "tuple" = some (.type "tuple") := by decide +kernel
theorem bDict : bootBuiltins "dict" = some (.type "dict") := by decide +kernel
structure TxtC (mg : Str → Option Value) : Prop where
  isi : mg "isinstance" = none
  int : mg "int" = none
  bool : mg "bool" = none
  str : mg "str" = none
  list : mg "list" = none
  tuple : mg "tuple" = none
  len : mg "len" = none
  all : mg "all" = none
/-- what is asked of any object and answered by True or False -/
def spAsk (K : PySem.W.Frag) (f : V → Kd → Bool) : Sp := fun vs H Q _ => ∃ (v : V) (k : Kd), vs = [v] ∧ Any K H v k ∧ ∀ H', Same H H' → Q (.bl (f v k)) H'
def numFrom (n : Int) (v : V) (_ : Kd) : Bool := match v with
  | .int i => decide (n ≤ i)
  | _ => false
def fInt (_ : V) (k : Kd) : Bool := k.isInt
def fSeq (_ : V) (k : Kd) : Bool := k.isLst || k.isTup
section
variable {P : Program} {w : World} {K : PySem.W.Frag} {mg : Str → Option Value} {base : Heap}
theorem scIsInt : FnScope ["thing"] ["thing"] (defScope sIsInt) := ⟨rfl, rfl, rfl, by decide +kernel, rfl, by decide +kernel, by decide +kernel⟩
theorem ok_isInt {f : Addr} {fd : FuncData} (F : Fun K "is_integer" "is_integer" sIsInt f fd) (T : TxtC mg) : FnOk P w K mg base CX0 1 f fd ["thing"] (spAsk K fInt) := by
  refine F.ok scIsInt (fun vs H Q E h => ?_) (fun cdv A outer s H vs Q E hr h => ?_)
  · obtain ⟨v, k, rfl, _⟩ := h
    rfl
  · obtain ⟨v, k, rfl, a, q⟩ := h
    obtain ⟨t, S⟩ := a.says
    refine ⟨_, pss_one (ps_ret (pe_and (pe_callB call_isA (by rfl) T.isi bootIsi (pa_cons (pv 0) (pa_cons (pe_bltn (v := .ty "int") (u := .type "int") (by rfl) T.int bInt rfl) pa_nil)))
      (pe_one (pe_not (pe_callB call_isA (by rfl) T.isi bootIsi (pa_cons (pv 0) (pa_cons (pe_bltn (v := .ty "bool") (u := .type "bool") (by rfl) T.bool bBool rfl) pa_nil))))))), ?_⟩
    refine ⟨_, rfl, v, .ty "int", t, .type "int", _, rfl, .ty _, S.ty, S.int, _, rfl, ?_⟩
    have q' := q H (Same.refl H)
    cases k with
    | int => exact iteT ⟨_, rfl, v, .ty "bool", t, .type "bool", _, rfl, .ty _, S.ty, S.bool, _, rfl, q'⟩
    | bl => exact iteT ⟨_, rfl, v, .ty "bool", t, .type "bool", _, rfl, .ty _, S.ty, S.bool, _, rfl, q'⟩
    | _ => exact iteF q'
theorem scIsNum : FnScope ["thing"] ["thing"] (defScope sIsNum) := ⟨rfl, rfl, rfl, by decide +kernel, rfl, by decide +kernel, by decide +kernel⟩
theorem scIsOne : FnScope ["thing"] ["thing"] (defScope sIsOne) := ⟨rfl, rfl, rfl, by decide +kernel, rfl, by decide +kernel, by decide +kernel⟩
theorem ok_isNum {f fI : Addr} {fd fdI : FuncData} (F : Fun K "is_number" "is_number" sIsNum f fd) (FI : Fun K "is_integer" "is_integer" sIsInt fI fdI) (gI : mg "is_integer" = some (.ref fI)) (T : TxtC mg) : FnOk P w K mg base CX0 2 f fd ["thing"] (spAsk K (numFrom 0)) := by
  have GI : FnOk P w K mg base CX0 1 fI fdI ["thing"] (spAsk K fInt) := ok_isInt FI T
  have bI : Binds K fdI ["thing"] [] := FI.binds fun _ _ _ _ _ _ us hl => match us, hl with | [_], _ => rfl
  refine F.ok scIsNum (fun vs H Q E h => ?_) (fun cdv A outer s H vs Q E hr h => ?_)
  · obtain ⟨v, k, rfl, _⟩ := h
    rfl
  · obtain ⟨v, k, rfl, a, q⟩ := h
    refine ⟨_, pss_one (ps_ret (pe_and (pe_call GI hr (by rfl) gI FI.kp bI .nil pass0 (pa_cons (pv 0) pa_nil)) (pe_one (pe_cmpR op_ge (pv 0) pe_int (nomark _))))), ?_⟩
    refine ⟨_, rfl, v, k, rfl, a, fun H' e => ⟨_, rfl, ?_⟩⟩
    have q' := q H' e
    cases a with
    | int i => exact iteT ⟨_, rfl, i, 0, rfl, rfl, q'⟩
    | _ => exact iteF q'
theorem ok_isOne {f fI : Addr} {fd fdI : FuncData} (F : Fun K "is_from_one" "is_from_one" sIsOne f fd) (FI : Fun K "is_integer" "is_integer" sIsInt fI fdI) (gI : mg "is_integer" = some (.ref fI)) (T : TxtC mg) : FnOk P w K mg base CX0 2 f fd ["thing"] (spAsk K (numFrom 1)) := by
  have GI : FnOk P w K mg base CX0 1 fI fdI ["thing"] (spAsk K fInt) := ok_isInt FI T
  have bI : Binds K fdI ["thing"] [] := FI.binds fun _ _ _ _ _ _ us hl => match us, hl with | [_], _ => rfl
  refine F.ok scIsOne (fun vs H Q E h => ?_) (fun cdv A outer s H vs Q E hr h => ?_)
  · obtain ⟨v, k, rfl, _⟩ := h
    rfl
  · obtain ⟨v, k, rfl, a, q⟩ := h
    refine ⟨_, pss_one (ps_ret (pe_and (pe_call GI hr (by rfl) gI FI.kp bI .nil pass0 (pa_cons (pv 0) pa_nil)) (pe_one (pe_cmpR op_ge (pv 0) pe_int (nomark _))))), ?_⟩
    refine ⟨_, rfl, v, k, rfl, a, fun H' e => ⟨_, rfl, ?_⟩⟩
    have q' := q H' e
    cases a with
    | int i => exact iteT ⟨_, rfl, i, 1, rfl, rfl, q'⟩
    | _ => exact iteF q'
theorem scIsList : FnScope ["thing"] ["thing"] (defScope sIsList) := ⟨rfl, rfl, rfl, by decide +kernel, rfl, by decide +kernel, by decide +kernel⟩
theorem ok_isList {f : Addr} {fd : FuncData} (F : Fun K "is_list" "is_list" sIsList f fd) (T : TxtC mg) : FnOk P w K mg base CX0 1 f fd ["thing"] (spAsk K fSeq) := by
  refine F.ok scIsList (fun vs H Q E h => ?_) (fun cdv A outer s H vs Q E hr h => ?_)
  · obtain ⟨v, k, rfl, _⟩ := h
    rfl
  · obtain ⟨v, k, rfl, a, q⟩ := h
    refine ⟨_, pss_one (ps_ret (pe_callB call_isAT (by rfl) T.isi bootIsi (pa_cons (pv 0) (pa_cons (pe_tup (pa_cons (pe_bltn (v := .ty "list") (u := .type "list") (by rfl) T.list bList rfl) (pa_cons (pe_bltn (v := .ty "tuple") (u := .type "tuple") (by rfl) T.tuple bTuple rfl) pa_nil))) pa_nil)))), ?_⟩
    refine ⟨_, rfl, by show 2 ≤ sizeLine; decide, fun tp htp => ?_⟩
    obtain ⟨t, S⟩ := (a.same (Same.new (u := .tup [.ty "list", .ty "tuple"]) htp)).says
    exact ⟨v, tp, _, t, _, _, rfl, upd_same, .cons (.ty _) (.cons (.ty _) .nil), S.ty, S.seq, q _ (Same.new htp)⟩
end
end OB
namespace OB
open PySem PySem.Spec PyProof.Rows L2
/-! ### names -/
/-- a comprehension over the signs of a text -/
theorem lc_str {x : Str} {g : TG} {tt : TT} {te : TE} {vs : List Nat} {σ : L2.St} {H1 : Hp} {D : Addr} {Qd : Hp → Prop} (Pv : Nat → Hp → Prop) (h0 : Pv 0 (upd H1 D (.lst [])))
    (hs : ∀ i c H, x.cps[i]? = some c → Pv i H → g (.str ⟨#[c]⟩) (wipe σ vs) H fun σ2 H2 => wipe σ2 vs = wipe σ vs ∧ tt σ2 H2 fun b H3 =>
      if b = true then te σ2 H3 fun y H4 => ∃ acc, H4 D = some (.lst acc) ∧ acc.length < sizeLine ∧ Pv (i + 1) (upd H4 D (.lst (acc ++ [y]))) else Pv (i + 1) H3) (hd : ∀ H, Pv x.cps.size H → Qd H) :
    ∃ W : Nat → Nat → Hp → Prop, (∃ m, W 0 m (upd H1 D (.lst []))) ∧ ∀ i m H, W i m H →
      ((Its x).stop i H ∧ Qd H) ∨ ((Its x).go i H ∧ ∃ Nx : Hp → Prop, (∀ H', Nx H' → ∃ m', m' < m ∧ W (i + 1) m' H') ∧ ∀ v H', (Its x).yld i H v H' → g v (wipe σ vs) H' fun σ2 H2 => wipe σ2 vs = wipe σ vs ∧ tt σ2 H2 fun b H3 =>
        if b = true then te σ2 H3 fun y H4 => ∃ acc, H4 D = some (.lst acc) ∧ acc.length < sizeLine ∧ Nx (upd H4 D (.lst (acc ++ [y]))) else Nx H3) := by
  refine ⟨fun i m H => m = x.cps.size - i ∧ i ≤ x.cps.size ∧ Pv i H, ⟨x.cps.size, by simp, Nat.zero_le _, h0⟩, ?_⟩
  rintro i m H ⟨rfl, hi, p⟩
  by_cases hlt : i < x.cps.size
  · refine .inr ⟨hlt, Pv (i + 1), fun H' p' => ⟨x.cps.size - (i + 1), by omega, rfl, hlt, p'⟩, fun v H' y => ?_⟩
    obtain ⟨rfl, c, hc, rfl⟩ := y
    exact hs i c _ hc p
  · have e : i = x.cps.size := by omega
    subst e
    exact .inl ⟨Nat.le_refl _, hd _ p⟩
def letters : Str := "abcdefghijklmnopqrstuvwxyz"
def figures : Str := "0123456789"
def okSign (c : Nat) : Bool := decide (c ∈ letters.cps.toList) || decide (c ∈ figures.cps.toList)
def isNameL (l : List Nat) : Bool := match l with
  | [] => false
  | c :: cs => decide ((c :: cs).length ≤ 8) && (decide (c ∈ letters.cps.toList) && (c :: cs).all okSign)
def isNameS (x : Str) : Bool := isNameL x.cps.toList
def fName (v : V) (_ : Kd) : Bool := match v with
  | .str x => isNameS x
  | _ => false
structure TxtN (mg : Str → Option Value) : Prop where
  L : ∃ t, mg "LETTERS" = some (.str letters t)
  F : ∃ t, mg "FIGURES" = some (.str figures t)
  N : ∃ t, mg "LONGEST_NAME" = some (.int 8 t)
section
variable {P : Program} {w : World} {K : PySem.W.Frag} {mg : Str → Option Value} {base : Heap}
theorem scIsName : FnScope ["thing", "sign"] ["thing"] (defScope sIsName) := ⟨rfl, rfl, rfl, by decide +kernel, rfl, by decide +kernel, by decide +kernel⟩
theorem ok_isName {f : Addr} {fd : FuncData} (F : Fun K "is_name" "is_name" sIsName f fd) (T : TxtC mg) (TN : TxtN mg) : FnOk P w K mg base CX0 1 f fd ["thing"] (spAsk K fName) := by
  obtain ⟨tL, mL⟩ := TN.L
  obtain ⟨tF, mF⟩ := TN.F
  obtain ⟨tN, mN⟩ := TN.N
  refine F.ok scIsName (fun vs H Q E h => ?_) (fun cdv A outer s H vs Q E hr h => ?_)
  · obtain ⟨v, k, rfl, _⟩ := h
    rfl
  · obtain ⟨v, k, rfl, a, q⟩ := h
    obtain ⟨t, S⟩ := a.says
    have nd := scIsName.nd
    refine ⟨_, pss_cons (ps_if (PW.pt (pw_or (pt_not (pt_val (pe_callB call_isA (by rfl) T.isi bootIsi (pa_cons (pv 0) (pa_cons (pe_bltn (v := .ty "str") (u := .type "str") (by rfl) T.str bStr rfl) pa_nil)))))
        (pw_or1 (pt_not (pt_chain op_le op_le pe_int (pe_callB call_len_str (by rfl) T.len PySem.boot_len (pa_cons (pv 0) pa_nil)) (pe_glob (v := .int 8) (by rfl) mN ⟨_, rfl⟩))))))
        (pss_one (ps_ret pe_bl)) pss_nil)
      (pss_one (ps_ret (pe_and (pe_cmpR op_in_sign (pe_ix ix_str (pv 0) pe_int (fun _ _ => rfl)) (pe_glob (v := .str letters) (by rfl) mL ⟨_, rfl⟩) (by rfl))
        (pe_one (pe_callB (cr_all rfl) (by rfl) T.all (by decide +kernel) (pa_cons (pe_lc (own := [("sign", 1)]) (g := gName 1) (tt := tYes) rfl nd (pi_str (pv 0)) (blkOk_by (N := ["thing", "sign"]) (sc := defScope sIsName) (by decide +kernel))
          (fun _ _ _ _ _ => pg_name (i := 1) nd rfl (Or.inl rfl)) (fun _ _ _ _ _ => pts_nil)
          (fun _ _ _ _ _ => pe_or (pe_cmpR op_in_sign (pv 1) (pe_glob (v := .str letters) (by rfl) mL ⟨_, rfl⟩) (by rfl)) (pe_one (pe_cmpR op_in_sign (pv 1) (pe_glob (v := .str figures) (by rfl) mF ⟨_, rfl⟩) (by rfl))))) pa_nil)))))), ?_⟩
    refine ⟨_, rfl, v, .ty "str", t, .type "str", _, rfl, .ty _, S.ty, S.str, _, rfl, ?_⟩
    have q0 := q H (Same.refl H)
    cases a with
    | @str x hx =>
      have hx2 : x.length ≤ sizeLine := Nat.le_trans hx (by decide)
      refine iteF ⟨_, rfl, x, rfl, hx2, 1, (x.length : Int), rfl, rfl, _, rfl, ?_⟩
      have fls : isNameS x = false → Q (.bl false) H := fun z => by
        have e : fName (.str x) .str = false := z
        rw [← e]
        exact q0
      have ln : x.length = x.cps.toList.length := by simp [Str.length]
      refine ite2 (fun h1 => ⟨_, 8, rfl, rfl, ?_⟩) (fun h1 => ?_)
      · have g1 : 1 ≤ x.length := by
          have z := of_decide_eq_true h1
          omega
        refine ⟨_, rfl, ?_⟩
        by_cases g2 : x.length ≤ 8
        · have e2 : decide (((x.length : Int)) ≤ 8) = true := decide_eq_true (by omega)
          rw [e2]
          refine iteF ?_
          obtain ⟨c, hc⟩ : ∃ c, x.cps.toList[0]? = some c := ⟨_, List.getElem?_eq_getElem (by omega)⟩
          obtain ⟨cs, hcs⟩ : ∃ cs, x.cps.toList = c :: cs := by
            cases e : x.cps.toList with
            | nil => rw [e] at hc; cases hc
            | cons d ds =>
              rw [e] at hc
              cases hc
              exact ⟨ds, rfl⟩
          have val : isNameS x = (decide (c ∈ letters.cps.toList) && x.cps.toList.all okSign) := by
            unfold isNameS isNameL
            rw [hcs]
            show (decide ((c :: cs).length ≤ 8) && _) = _
            rw [decide_eq_true (by rw [← hcs, ← ln]; exact g2), Bool.true_and]
          refine ⟨_, rfl, x, 0, c, rfl, rfl, hx2, atI_nat hc, c, letters, rfl, rfl, _, rfl, ?_⟩
          by_cases g3 : c ∈ letters.cps.toList
          · rw [decide_eq_true g3]
            refine iteT ⟨_, rfl, x, rfl, fun D nD => ?_⟩
            refine lc_str (fun i G => (∀ b o, b ≠ D → H b = some o → G b = some o) ∧ G D = some (.lst ((x.cps.toList.take i).map fun c => V.bl (okSign c)))) ⟨fun b o nb e => by rw [upd_ne nb]; exact e, by rw [upd_same]; rfl⟩ (fun i d G hd ⟨k1, k2⟩ => ?_) (fun G ⟨k1, k2⟩ => ?_)
            · refine ⟨rfl, ?_⟩
              dsimp only [tYes]
              rw [if_pos rfl]
              have hd' : x.cps.toList[i]? = some d := by simpa using hd
              have fin : ∃ acc, G D = some (.lst acc) ∧ acc.length < sizeLine ∧ ((∀ b o, b ≠ D → H b = some o → (upd G D (.lst (acc ++ [V.bl (okSign d)]))) b = some o) ∧ (upd G D (.lst (acc ++ [V.bl (okSign d)]))) D = some (.lst ((x.cps.toList.take (i + 1)).map fun c => V.bl (okSign c)))) := by
                refine ⟨_, k2, ?_, fun b o nb e => by rw [upd_ne nb]; exact k1 b o nb e, ?_⟩
                · rw [List.length_map, List.length_take, sizeLine_eq]
                  omega
                · rw [upd_same, List.take_add_one, hd', List.map_append]
                  rfl
              refine ⟨_, rfl, d, letters, rfl, rfl, _, rfl, ?_⟩
              by_cases g4 : d ∈ letters.cps.toList
              · have ok : okSign d = true := by
                  unfold okSign
                  rw [decide_eq_true g4] <;> rfl
                rw [decide_eq_true g4]
                rw [ok] at fin
                exact iteT fin
              · have ok : okSign d = decide (d ∈ figures.cps.toList) := by
                  unfold okSign
                  rw [decide_eq_false g4, Bool.false_or]
                rw [decide_eq_false g4]
                rw [ok] at fin
                exact iteF ⟨_, rfl, d, figures, rfl, rfl, fin⟩
            · refine ⟨D, x.cps.toList.map okSign, rfl, SqL.of ?_, ?_⟩
              · rw [k2, List.map_map]
                have z : x.cps.toList.take x.cps.size = x.cps.toList := List.take_of_length_le (by simp)
                rw [z] <;> rfl
              · have e : fName (.str x) .str = (x.cps.toList.map okSign).all id := by
                  show isNameS x = _
                  rw [val, decide_eq_true g3, Bool.true_and, List.all_map] <;> rfl
                rw [← e]
                exact q G fun b o eb => k1 b o (ne_of_none eb nD) eb
          · rw [decide_eq_false g3]
            exact iteF (fls (by rw [val, decide_eq_false g3, Bool.false_and]))
        · have e2 : decide (((x.length : Int)) ≤ 8) = false := decide_eq_false (by omega)
          rw [e2]
          refine iteT (fls ?_)
          unfold isNameS isNameL
          cases e : x.cps.toList with
          | nil => rfl
          | cons d ds =>
            show (decide ((d :: ds).length ≤ 8) && _) = false
            rw [decide_eq_false (by rw [← e, ← ln]; exact g2), Bool.false_and]
      · refine ⟨_, rfl, iteT (fls ?_)⟩
        have g1 : ¬ 1 ≤ x.length := fun z => h1 (decide_eq_true (by omega))
        unfold isNameS isNameL
        cases e : x.cps.toList with
        | nil => rfl
        | cons d ds =>
          rw [ln, e] at g1
          simp at g1
    | _ => exact iteT q0
end
end OB
/-! An own error class called with positional arguments and with keywords. -/
namespace OE
open PySem PySem.W PySem.Calls PyProof.Rows PySem.HandSPX
section
variable {M : Model} {A : Around} {E : Value → Shared → Prop} {hp : Heap} {g : Array GenState} {d : Drawn} {t : Nat} {os : OsState}
variable {nm q : Str} {C N : Addr} {bs bm bmB : List Value} {hdct : Bool} {sn : List Str} {sub : List Value} {ab : Bool} {col : Option Bool} {dd : Option Addr} {k0 k1 k2 k3 k5 : Option Value} {B newId initId : String}
variable {xs : List Value} {kw : List (Str × Value)}
theorem chk_call {Q : Unit → Shared → Prop} (oC : hp.get? C = some (excClassObj nm q C N bs bm hdct sn sub ab col dd k0 k1 k2 k3 k5 newId)) (z : Q () ⟨hp, g, d, t, os⟩) : wpAny M A (checkBuiltinCall "type.__call__" ⟨.ref C :: xs, kw⟩) Q E ⟨hp, g, d, t, os⟩ := by
  have w3 := tc_sub
  have wT : (⟨hp, g, d, t, os⟩ : Shared).TypeIs (.ref C) "type" := ⟨_, oC, rfl⟩
  simp only [checkBuiltinCall, tc_kind, tc_split]
  repeat (any_goals (first | assumption | with_reducible refine wpAny_loadPart_at oC ?_ | with_reducible refine wpAny_onRaise ?_ | with_reducible refine wpAny_map ?_ | wp_step))
theorem chk_new (F : ExcBaseFacts B newId initId bmB) (hT : ∀ Y : String, bm.contains (.type Y) = bmB.contains (.type Y)) {Q : Unit → Shared → Prop}
    (oC : hp.get? C = some (excClassObj nm q C N bs bm hdct sn sub ab col dd k0 k1 k2 k3 k5 newId)) (z : Q () ⟨hp, g, d, t, os⟩) : wpAny M A (checkBuiltinCall newId ⟨.ref C :: xs, kw⟩) Q E ⟨hp, g, d, t, os⟩ := by
  have inB : (Value.ref C :: bm).contains (.type B) = true := by
    rw [List.contains_cons, hT, F.hasB]
    exact Bool.or_true _
  have w1 := F.noStar
  simp only [checkBuiltinCall, F.newKind, F.newSplit, F.newRow]
  repeat (first | refine wpAny_loadPart_at oC ?_ | (refine wpAny_isSubtype_exc oC ?_; rw [inB]) | refine wpAny_staticBase_exc oC ?_ | refine wpAny_madeBy_exc oC ?_ | simp only [bne_self_eq_false, Bool.false_eq_true, if_false] | wp_step)
  all_goals first | exact z | skip
end
end OE
namespace OE
open PySem PySem.W PySem.Calls PyProof.Rows PySem.HandSPX
section
variable {prog : Program} {w : World} {A : Around} {E : Value → Shared → Prop} {R : Result → Shared → Prop} {hp : Heap} {g : Array GenState} {d : Drawn} {t : Nat} {os : OsState}
variable {nm q : Str} {C N : Addr} {bs bm bmB : List Value} {hdct : Bool} {sn : List Str} {sub : List Value} {ab : Bool} {col : Option Bool} {dd : Option Addr} {k0 k1 k2 k3 k5 : Option Value} {B newId initId : String}
variable {xs : List Value} {kw : List (Str × Value)}
/-- the heap behind __new__ -/
abbrev newHp (hp : Heap) (C : Addr) (xs : List Value) : Heap := (hp.push (W.kdv_tup xs)).push (excO C hp.objs.size)
theorem run_new (F : ExcBaseFacts B newId initId bmB) (hT : ∀ Y : String, bm.contains (.type Y) = bmB.contains (.type Y)) (oC : hp.get? C = some (excClassObj nm q C N bs bm hdct sn sub ab col dd k0 k1 k2 k3 k5 newId)) (hl : xs.length ≤ sizeLine)
    (z : R (.ok (.ret (.ref (hp.objs.size + 1)))) ⟨newHp hp C xs, g, d, t, os⟩) : codeAny (model prog w) A (.builtin newId ⟨.ref C :: xs, kw⟩) R ⟨hp, g, d, t, os⟩ := by
  have w1 := F.ends
  have inB : (Value.ref C :: bm).contains (.type B) = true := by
    rw [List.contains_cons, hT, F.hasB]
    exact Bool.or_true _
  have notA : (Value.ref C :: bm).contains (.type "AttributeError") = false := by rw [List.contains_cons, hT, F.noAttr] <;> rfl
  have notN : (Value.ref C :: bm).contains (.type "NameError") = false := by rw [List.contains_cons, hT, F.noName] <;> rfl
  refine codeAny_builtinAt F.entry ?_
  unfold Builtin.«BaseException.__new__»
  refine _root_.PySem.wpAt_bind ?_; show _root_.PySem.wpAt _ _ _ (stack >>= _) _ _ _
  refine _root_.PySem.wpAt_bind (_root_.PySem.wpAt_stack fun p l => _root_.PySem.wpAt_of_wpAny ?_)
  wp_walk
  refine _root_.PySem.wpAt_of_wpAny ?_
  rw [F.owner]
  repeat (first | with_reducible refine wpAny_madeHere_exc F.canon oC ?_ | with_reducible refine wpAny_loadPart_at oC ?_ | (with_reducible refine wpAny_isSubtype_exc oC ?_; first | rw [inB] | rw [notA] | rw [notN]) | wp_step)
  show R _ _
  rw [Heap.size_push]
  exact z
theorem run_typeCall {fI : Addr} {Q : Fin → Shared → Prop} (F : ExcBaseFacts B newId initId bmB) (hT : ∀ Y : String, bm.contains (.type Y) = bmB.contains (.type Y)) (oC : hp.get? C = some (excClassObj nm q C N bs bm hdct sn sub ab col dd k0 k1 k2 k3 k5 newId)) (hl : xs.length ≤ sizeLine)
    (li : W.Looks (model prog w) hp (typeLookup (.ref C) "__init__") (some (.ref fI))) (lb : ∀ self, W.Looks (model prog w) hp (bindSpecial (.ref fI) self) (.ref fI, [self]))
    (z : codeAny (model prog w) A (.call (.ref fI) ⟨.ref (hp.objs.size + 1) :: xs, kw⟩) (fun r s' => match r with | .ok (.ret v) => v = .none ∧ Q (.done (.ret (.ref (hp.objs.size + 1)))) s' | .ok _ => False | .error e => E e s') ⟨newHp hp C xs, g, d, t, os⟩) :
    wpAny (model prog w) A (Builtin.«type.__call__» ⟨.ref C :: xs, kw⟩) Q E ⟨hp, g, d, t, os⟩ := by
  repeat (first | with_reducible refine wpAny_loadPart_at oC ?_ | with_reducible refine wpAny_madeBy_exc oC ?_ | wp_step)
  refine codeAny_call_builtin_code (Code.quiet_builtin _ F.quiet) (chk_new F hT oC (run_new F hT oC hl ?_))
  show wpAny _ _ _ _ _ _
  have kp : ∀ b o, hp.get? b = some o → (newHp hp C xs).get? b = some o := fun b o e => Heap.get?_push_of_some _ (Heap.get?_push_of_some _ e)
  have oC' := kp _ _ oC
  have ox : (newHp hp C xs).get? (hp.objs.size + 1) = some (excO C hp.objs.size) := by heap_get
  have inC : (Value.ref C :: bm).contains (.ref C) = true := by simp
  have li' := li.keeps kp
  have lb' := (lb (.ref (hp.objs.size + 1))).keeps kp
  unfold isInstance
  repeat (first | with_reducible refine wpAny_loadPart_at ox ?_ | (with_reducible refine wpAny_isSubtype_exc oC' ?_; rw [inC]) | wp_step)
  show wpAny _ _ (typeLookup (.ref C) _) _ _ _
  refine li'.at (wpAny_holding (wpAny_bind (lb'.at (wpAny_bind (wpAny_call (codeAny_mono z fun r s' y => ?_))))))
  cases r with
  | error e => exact y
  | ok fl =>
    cases fl with
    | ret v =>
      have y' : v = .none ∧ Q (.done (.ret (.ref (hp.objs.size + 1)))) s' := y
      obtain ⟨e0, y2⟩ := y'
      subst e0
      first | exact wpAny_pure (wpAny_pure y2) | (wp_walk; try exact y2)
    | next => exact (show False from y).elim
    | brk => exact (show False from y).elim
    | cont => exact (show False from y).elim
/-- C(*xs, **kw) of an own error class with an own __init__ -/
theorem call_any {fI : Addr} (F : ExcBaseFacts B newId initId bmB) (hT : ∀ Y : String, bm.contains (.type Y) = bmB.contains (.type Y)) (oC : hp.get? C = some (excClassObj nm q C N bs bm hdct sn sub ab col dd k0 k1 k2 k3 k5 newId)) (hl : xs.length ≤ sizeLine)
    (li : W.Looks (model prog w) hp (typeLookup (.ref C) "__init__") (some (.ref fI))) (lb : ∀ self, W.Looks (model prog w) hp (bindSpecial (.ref fI) self) (.ref fI, [self]))
    (z : codeAny (model prog w) (A.under (.builtin "type.__call__" ⟨.ref C :: xs, kw⟩)) (.call (.ref fI) ⟨.ref (hp.objs.size + 1) :: xs, kw⟩) (W.InitBack (hp.objs.size + 1) R) ⟨newHp hp C xs, g, d, t, os⟩) :
    codeAny (model prog w) A (.call (.ref C) ⟨xs, kw⟩) R ⟨hp, g, d, t, os⟩ := by
  have w1 := tc_lookup
  have w2 := tc_bind (.ref C)
  have wT : (⟨hp, g, d, t, os⟩ : Shared).TypeIs (.ref C) "type" := ⟨_, oC, rfl⟩
  refine codeAny_of_tree ?_; show wpAny _ _ (callAny (.ref C) _) _ _ _
  repeat (any_goals (first | assumption | with_reducible refine wpAny_loadPart_at oC ?_ | wp_step))
  refine ⟨rfl, codeAny_call_builtin_at (Code.quiet_builtin _ (by decide +kernel)) entry_typeCall (chk_call oC (run_typeCall F hT oC hl li lb (codeAny_mono z fun r s' y => ?_)))⟩
  rcases r with e | (v | _ | _ | _) <;> exact y
end
end OE
/-! An own error class over an own class over ValueError, whose __init__ says super().__init__(text) and keeps one thing. -/
namespace OE
open PySem PySem.W PySem.Calls PyProof.Rows PySem.HandSPX
/-! ### the text of __init__ -/
def eA (f : Str) (p1 p2 : Pos) : Arguments := { posonlyargs := [], args := [{ arg := "self", annotation := none, pos := p1 }, { arg := f, annotation := none, pos := p2 }], vararg := none, kwonlyargs := [], kw_defaults := [], kwarg := none, defaults := [] }
def eB0 (tx : Str) (a b c d e e' : Pos) : Stmt := .Expr (.Call (.Attribute (.Call (.Name "super" a) [] [] b) "__init__" c) [.Constant (.str tx) 0 d] [] e) e'
def eB1 (f : Str) (g h i j : Pos) : Stmt := .Assign [.Attribute (.Name "self" g) f h] (.Name f i) j
def eS (f : Str) : Scope := { kind := .function, names := [(PySem.Str.ofString "self", .local), (f, .local), (PySem.Str.ofString "__class__", .free), (PySem.Str.ofString "super", .globalImplicit)], isGenerator := false, isCoroutine := false, more := [] }
/-- what the written part says of the class at C, and of its __init__, at fI -/
structure Cl1 (P : Program) (K : Frag) (C fI : Addr) (f : Str) : Prop where
  cls : ∃ nm q N bs bm sn sub ab col dd k0 k1 k2 k3 k5, K.lookup C = some (excClassObj nm q C N bs bm true sn sub ab col dd k0 k1 k2 k3 k5 "ValueError.__new__") ∧ refsVE bm = true
  sa : findIn K (.ref C) "__setattr__" = some (some (.builtin "object.__setattr__"))
  noF : findIn K (.ref C) f = some none
  iC : findIn K (.ref C) "__init__" = some (some (.ref fI))
  tC : typeIn K (.ref fI) = some (.type "function")
  sup : ks_superIn K C C "__init__" = some (some (.builtin "ValueError.__init__"))
  sub : mroIn K C (.ref C) = some true
  exI : excInitIn K C [.type "ValueError", .type "Exception", .type "BaseException", .type "object"] "ValueError.__new__" = true
  subV : subIn K (.ref C) (.type "ValueError") = some true
  opq : nsIn K cStatics "thirdparty.any" = some none
  spr : nsIn K mainGlobals "super" = some none
  fn : ∃ (oc : Value) (od : Option Addr) (doc pm : Value) (an : Option Addr) (ct : Value) (osl : Array (Option Value)) (p1 p2 : Pos) (tx : Str) (a b c d e e' g h i j : Pos) (qual : Str) (cc cda : Addr) (vs : Array Value) (file : Str) (tf : Tok) (ccl cl : Value) (cdd cld : Option Addr) (ccs csl : Array (Option Value)),
    K.lookup fI = some ⟨oc, od, .func (fnX "__init__" qual (eA f p1 p2) [eB0 tx a b c d e e', eB1 f g h i j] (eS f) [("__class__", cc)] .none .none doc pm an (.ref cda) ct), osl⟩ ∧ codeIn K (.ref cda) qual = true ∧
    (c.endLine == e.line) = true ∧ K.lookup cda = some ⟨ccl, cdd, .fields vs, ccs⟩ ∧ vs[2]? = some (.str file tf) ∧ ((P.main.file : Str) == file) = true ∧ K.lookup cc = some ⟨cl, cld, .cell (some (.ref C)), csl⟩
  fok : (f == ("self" : Str)) = false ∧ (f == ("__class__" : Str)) = false ∧ (f == ("super" : Str)) = false ∧ (f == ("__debug__" : Str)) = false
theorem he_of {env : Env} {o : Expr} {x tx : Str} {c d e : Pos} (hl : (c.endLine == e.line) = true) :
    eval (.Call (.Attribute o x c) [.Constant (.str tx) 0 d] [] e) env = (do
        let ov ← attributeBase o x env (eval o env)
        standAt c.atName
        let (f, first) ← holding [ov] (getMethod ov x (do return (← importBound o env).getD true))
        callWith e f first (backTo e (starEach [.Constant (.str tx) 0 d] env)) []) := by
  have hpos : methodCallPos true o env c e = pure e := by unfold methodCallPos; simp [hl]
  have hform : methodCallForm ([Expr.Constant (.str tx) 0 d].length + ([] : List Keyword).length) (backTo e (starEach [.Constant (.str tx) 0 d] env)) (backToKw e (keywordEach [] env)) = true := by rfl
  rw [arm_eval_Call]
  unfold methodCall
  rw [hform, hpos]
  rfl
/-- what __init__ leaves of a fresh exception at x -/
structure InitEnd (h h' : Heap) (x C dx t1 : Addr) (f : Str) (v : Value) : Prop where
  keep : ∀ b o, b ≠ x → h.get? b = some o → h'.get? b = some o
  obj : h'.get? x = some { cls := .ref C, dict := some dx, data := .fields #[.ref t1, .none, .none, .none, .bool false, .none] }
  dbig : h.objs.size ≤ dx
  dne : dx ≠ x
  ns : h'.Ns1 dx (fun y => if y = f then some v else none)
section
variable {P : Program} {w : World} {A : Around} {E : Value → Shared → Prop} {R : Result → Shared → Prop} {s : Shared} {K : Frag} {mg mb : Str → Option Value} {C fI : Addr} {f : Str}
theorem init1 (T : Cl1 P K C fI f) {x t0 : Addr} {v : Value} {args : Args} (X : K.In s.heap) (hg : s.heap.Ns mainGlobals mg) (hb : s.heap.Ns builtinsNs mb) (hbi : ∀ x : Str, x ≠ "__name__" → mb x = bootBuiltins x) (htop : (P.main.scope.names.lookup ("super" : Str)).isSome = false)
    (hlim : s.heap.NoLimit) (hx : s.heap.get? x = some (excO C t0)) (hnx : K.lookup x = none) (hroom : A.depth < recursionLimit)
    (hbind : ∀ fd : FuncData, (∃ p1 p2, fd.params = eA f p1 p2) → fd.defaults = .none → fd.kwdefaults = .none → BindsTo s fd args [("self", .ref x), (f, v)])
    (hq : ∀ h' tk dx t1, InitEnd s.heap h' x C dx t1 f v → R (.ok (.ret .none)) { s with heap := h', toks := tk }) :
    codeAny (model P w) A (.call (.ref fI) args) R s := by
  obtain ⟨oc, od, doc, pm, an, ct, osl, p1, p2, tx, a, b, c, d, e, e', g, h, i, j, qual, cc, cda, vs, file, tf, ccl, cl, cdd, cld, ccs, csl, ho, hcd, hline, hcode, hvs, hfile, hcell⟩ := T.fn
  obtain ⟨nm, q, N, bs, bm, sn, sub, ab, col, dd, k0, k1, k2, k3, k5, hC, hbm⟩ := T.cls
  obtain ⟨n1, n2, n3, n4⟩ := T.fok
  have hcl : clsIn K C = some { name := nm, bases := bs, mro := .ref C :: bm, ns := N, qualname := q, hasDict := true, slotNames := sn, subclasses := sub, abstract := ab, collection := col, hasDel := false } := by unfold clsIn; rw [hC] <;> rfl
  have lself : (eS f).names.lookup ("self" : Str) = some .local := by simp [eS, List.lookup]
  have lf : (eS f).names.lookup f = some .local := by simp [eS, List.lookup, n1]
  have lsup : (eS f).names.lookup ("super" : Str) = some .globalImplicit := by
    have z : (("super" : Str) == f) = false := by rw [beq_eq_false_iff_ne]; intro q; rw [← q] at n3; exact absurd n3 (by decide +kernel)
    have z1 : (("super" : Str) == PySem.Str.ofString "self") = false := by decide +kernel
    have z2 : (("super" : Str) == PySem.Str.ofString "__class__") = false := by decide +kernel
    simp [eS, List.lookup, z, z1, z2]
  have lcls : (eS f).names.lookup ("__class__" : Str) = some .free := by
    have z : (("__class__" : Str) == f) = false := by rw [beq_eq_false_iff_ne]; intro q; rw [← q] at n2; exact absurd n2 (by decide +kernel)
    have z1 : (("__class__" : Str) == PySem.Str.ofString "self") = false := by decide +kernel
    simp [eS, List.lookup, z, z1]
  have n1' : (("self" : Str) == f) = false := by rw [beq_eq_false_iff_ne]; exact fun q => (beq_eq_false_iff_ne.mp n1) q.symm
  have e1 : ([("self", Value.ref x), (f, v)] : List (Str × Value)).reverse.lookup ("self" : Str) = some (Value.ref x) := by simp [List.lookup, n1']
  have e2 : ([("self", Value.ref x), (f, v)] : List (Str × Value)).reverse.lookup f = some v := by simp [List.lookup]
  refine ks_codeAny_call_defAt (fd := fnX "__init__" qual (eA f p1 p2) [eB0 tx a b c d e e', eB1 f g h i j] (eS f) [("__class__", cc)] .none .none doc pm an (.ref cda) ct) (body := [eB0 tx a b c d e e', eB1 f g h i j]) (binds := [("self", .ref x), (f, v)])
    hroom (X _ _ ho) rfl hlim (codeRec_of X hcd) rfl (hbind _ ⟨_, _, rfl⟩ rfl rfl) ?_ ?_ (fun h₁ hns hk₁ => ?_)
  · intro y hy
    have z : (eS f).names = [(PySem.Str.ofString "self", .local), (f, .local), (PySem.Str.ofString "__class__", .free), (PySem.Str.ofString "super", .globalImplicit)] := rfl
    rw [show (fnX "__init__" qual (eA f p1 p2) [eB0 tx a b c d e e', eB1 f g h i j] (eS f) [("__class__", cc)] .none .none doc pm an (.ref cda) ct).scope.names = _ from z] at hy
    simp only [List.mem_cons, List.not_mem_nil, or_false] at hy
    rcases hy with rfl | rfl | rfl | rfl <;> exact fun z => nomatch z
  · intro y hy
    simp only [List.mem_cons, List.not_mem_nil, or_false] at hy
    rcases hy with rfl | rfl
    · exact lself
    · exact lf
  have X₁ : K.In h₁ := X.keeps hk₁
  have hx₁ := hk₁ _ _ hx
  have hxL : s.heap.objs.size ≠ x := Nat.ne_of_gt (Heap.lt_size hx)
  obtain ⟨hp, gs, dr, tk, os⟩ := s
  refine ks_wpAt_execs_cons ?_
  show _root_.PySem.wpAt _ _ _ (exec (.Expr (.Call (.Attribute (.Call (.Name "super" a) [] [] b) "__init__" c) [.Constant (.str tx) 0 d] [] e) e') _) _ _ _
  refine ks_wpAt_Expr_any ?_ (by rfl) (by rfl)
  refine ks_wpAt_MethodCall (pl := (do return (← importBound (.Call (.Name "super" a) [] [] b) (callEnv (fnX "__init__" qual (eA f p1 p2) [eB0 tx a b c d e e', eB1 f g h i j] (eS f) [("__class__", cc)] .none .none doc pm an (.ref cda) ct) hp.objs.size fI)).getD true)) ?_ (he_of hline)
  have hClo : h₁.get? C = some _ := X₁ _ _ hC
  -- super()
  refine ks_wpAt_super_base (env := callEnv (fnX "__init__" qual (eA f p1 p2) [eB0 tx a b c d e e', eB1 f g h i j] (eS f) [("__class__", cc)] .none .none doc pm an (.ref cda) ct) hp.objs.size fI) lsup lcls (by decide +kernel) rfl (X₁ _ _ ho) rfl rfl rfl (X₁ _ _ hcode) rfl hvs hfile htop ?_
  refine ks_loadName_global rfl lsup (loadGlobal_builtin (env := callEnv (fnX "__init__" qual (eA f p1 p2) [eB0 tx a b c d e e', eB1 f g h i j] (eS f) [("__class__", cc)] .none .none doc pm an (.ref cda) ct) hp.objs.size fI) (hg.keeps hk₁) (mg_none_of X hg T.spr) (hb.keeps hk₁) ((hbi _ (by decide +kernel)).trans (by decide +kernel)) ⟨rfl, ?_⟩)
  refine wpAny_loadName_free rfl lcls rfl ⟨_, X₁ _ _ hcell, rfl⟩ ?_
  refine wpAny_loadName_local (v := .ref x) rfl lself hns e1 ?_
  refine ks_wpAny_isType_cls hClo rfl ⟨rfl, ?_⟩
  refine ks_wpAny_call_super hClo rfl hx₁ rfl (fun c e => nomatch e) (looks_mroIn X₁ T.sub) (fun h₂ hso k₂ => ?_)
  have X₂ : K.In h₂ := X₁.keeps k₂
  have hx₂ := k₂ _ _ hx₁
  have I₂ : InstAt h₂ x (excO C t0) C none := ⟨hx₂, rfl, rfl, trivial⟩
  have hxC : x ≠ C := fun z => by rw [z, hC] at hnx; cases hnx
  -- .__init__
  refine kxs_getMethod kxs_ValueError hso (looks_opaque X₂ T.opq) (l₀ := .ref C :: bm) (l := ((Value.ref C :: bm).dropWhile (· != .ref C)).drop 1) (fun A Q E s k q => wpAny_bind ((looks_clsIn X₂ hcl) A _ E s k (wpAny_pure q))) rfl X₂ ?_ (I₂.type.andThen (looks_subIn X₂ T.subV)) hxC (by decide +kernel) ?_
  · have z := T.sup
    unfold ks_superIn at z
    rw [hcl] at z
    exact z
  -- its call
  show wpAny _ _ (callWith e (.ref h₂.objs.size) [] (backTo e (starEach [.Constant (.str tx) 0 d] _)) []) _ _ _
  have hso₃ : (h₂.push (kxs_mw "ValueError.__init__" x)).get? h₂.objs.size = some (kxs_mw "ValueError.__init__" x) := Heap.get?_push_at rfl rfl
  have hx₃ : (h₂.push (kxs_mw "ValueError.__init__" x)).get? x = some (excO C t0) := Heap.get?_push_of_some _ hx₂
  refine kxs_callWith (i := "ValueError.__init__") (x := x) rfl (evalArgs_plain (spliced_cons (Calls.Constant_str (pos := d) (k := 0) (spliced_nil ⟨hso₃, ?_⟩))))
  show wpAny _ _ (call (.ref h₂.objs.size) [_]) _ _ _
  -- all that stood at the entry but x is the base of the walk
  have hb0 : ∀ y o, hp.get? y = some o → y ≠ x → (hideAll hp [x]).get? y = some o := fun y o z n => hideAll_get _ z (by simpa using n)
  have hb1 : ∀ y o, (hideAll hp [x]).get? y = some o → hp.get? y = some o ∧ y ≠ x := fun y o z => ⟨of_hideAll _ z, fun q => by rw [q, hideAll_none _ (by simp)] at z; cases z⟩
  have X0 : K.In (hideAll hp [x]) := fun y o z => hb0 y o (X y o z) fun q => by rw [q, hnx] at z; cases z
  have k₃ : ∀ y o, h₁.get? y = some o → (h₂.push (kxs_mw "ValueError.__init__" x)).get? y = some o := fun y o z => Heap.get?_push_of_some _ (k₂ y o z)
  have F₃ : Fr (hideAll hp [x]) hp.objs.size (h₂.push (kxs_mw "ValueError.__init__" x)) _ := ⟨hns.at fun o q => k₃ _ o q, fun y o z => k₃ y o (hk₁ y o (hb1 y o z).1), by rw [hideAll_size]; exact Nat.le_refl _⟩
  have n2 : ∀ y, hp.objs.size ≤ y → (hideAll hp [x]).get? y = none := fun y n => by
    cases z : (hideAll hp [x]).get? y with
    | none => rfl
    | some o => exact absurd (Heap.lt_size (hb1 y o z).1) (Nat.not_lt.mpr n)
  have l2 : hp.objs.size < h₂.objs.size := Heap.lt_size (k₂ _ _ hns.choose_spec.choose_spec.choose_spec.1)
  have ux : h₂.objs.size ≠ x := fun q => absurd (Heap.lt_size hx) (by rw [← q]; exact Nat.not_lt.mpr (Nat.le_of_lt l2))
  have N₃ : News (hideAll hp [x]) hp.objs.size (h₂.push (kxs_mw "ValueError.__init__" x)) [(h₂.objs.size, kxs_mw "ValueError.__init__" x), (x, excObj C t0 none .none)] := by
    intro p hp'
    rcases List.mem_cons.mp hp' with rfl | hp'
    · exact ⟨hso₃, Nat.ne_of_gt l2, n2 _ (Nat.le_of_lt l2)⟩
    · obtain rfl := List.mem_singleton.mp hp'
      exact ⟨hx₃, hxL.symm, hideAll_none _ (by simp)⟩
  refine kxs_call (i := "ValueError.__init__") (c2 := .none) F₃ X0 N₃ F.excBase_ValueError T.exI (List.mem_cons_self ..) (.tail ux (.head (fun p hp => nomatch hp))) (by show 1 ≤ sizeLine; rw [sizeLine_eq]; decide) (fun t1 h₄ F₄ N₄ _ => ?_)
  have hx₄ : h₄.get? x = some (excO C t1) := (N₄ (x, excObj C t1 none .none) (by simp)).1
  have kk : ∀ b o, b ≠ x → hp.get? b = some o → h₄.get? b = some o := fun b o n z => F₄.keep b o (hb0 b o z n)
  -- self.f = f
  refine ks_wpAt_execs_cons (_root_.PySem.wpAt_of_wpAny ?_)
  have X₄ : K.In h₄ := X0.keeps F₄.keep
  have hns₄ : h₄.Ns hp.objs.size _ := F₄.ns
  show wpAny _ _ (exec (.Assign [.Attribute (.Name "self" g) f h] (.Name f i) j) _) _ _ _
  refine plainObj_wpAny_Assign_Attribute (wpAny_Name (wpAny_loadName_local (v := v) rfl lf hns₄ e2 (wpAny_Name (wpAny_loadName_local (v := .ref x) rfl lself hns₄ e1 ?_) (by decide +kernel))) n4) (by rfl)
  refine set_plain X₄ (ox := excO C t1) (od := none) ⟨hx₄, rfl, rfl, trivial⟩ T.sa ?_
  refine exc_osa X₄ hx₄ hcl (show refsVE (.ref C :: bm) = true from hbm) rfl T.noF (fun h₅ tk₅ dx k₅ dn dne hx₅ hn₅ => ?_)
  refine _root_.PySem.wpAt_of_wpAny (wpAny_execs_nil (hq h₅ tk₅ dx t1 ⟨fun b o n z => k₅ b o n (kk b o n z), hx₅, Nat.le_of_lt (Nat.lt_of_lt_of_le hns₄.lt dn), dne, hn₅⟩))
end
end OE
/-! The same without a field: __init__(self) with super().__init__(text). -/
namespace OE
open PySem PySem.W PySem.Calls PyProof.Rows PySem.HandSPX
def eA0 (p1 : Pos) : Arguments := { posonlyargs := [], args := [{ arg := "self", annotation := none, pos := p1 }], vararg := none, kwonlyargs := [], kw_defaults := [], kwarg := none, defaults := [] }
def eS0 : Scope := { kind := .function, names := [(PySem.Str.ofString "self", .local), (PySem.Str.ofString "__class__", .free), (PySem.Str.ofString "super", .globalImplicit)], isGenerator := false, isCoroutine := false, more := [] }
/-- what the written part says of the class at C, and of its __init__, at fI -/
structure Cl0 (P : Program) (K : Frag) (C fI : Addr) : Prop where
  cls : ∃ nm q N bs bm sn sub ab col dd k0 k1 k2 k3 k5, K.lookup C = some (excClassObj nm q C N bs bm true sn sub ab col dd k0 k1 k2 k3 k5 "ValueError.__new__") ∧ refsVE bm = true
  iC : findIn K (.ref C) "__init__" = some (some (.ref fI))
  tC : typeIn K (.ref fI) = some (.type "function")
  sup : ks_superIn K C C "__init__" = some (some (.builtin "ValueError.__init__"))
  sub : mroIn K C (.ref C) = some true
  exI : excInitIn K C [.type "ValueError", .type "Exception", .type "BaseException", .type "object"] "ValueError.__new__" = true
  subV : subIn K (.ref C) (.type "ValueError") = some true
  opq : nsIn K cStatics "thirdparty.any" = some none
  spr : nsIn K mainGlobals "super" = some none
  fn : ∃ (oc : Value) (od : Option Addr) (doc pm : Value) (an : Option Addr) (ct : Value) (osl : Array (Option Value)) (p1 : Pos) (tx : Str) (a b c d e e' : Pos) (qual : Str) (cc cda : Addr) (vs : Array Value) (file : Str) (tf : Tok) (ccl cl : Value) (cdd cld : Option Addr) (ccs csl : Array (Option Value)),
    K.lookup fI = some ⟨oc, od, .func (fnX "__init__" qual (eA0 p1) [eB0 tx a b c d e e'] eS0 [("__class__", cc)] .none .none doc pm an (.ref cda) ct), osl⟩ ∧ codeIn K (.ref cda) qual = true ∧
    (c.endLine == e.line) = true ∧ K.lookup cda = some ⟨ccl, cdd, .fields vs, ccs⟩ ∧ vs[2]? = some (.str file tf) ∧ ((P.main.file : Str) == file) = true ∧ K.lookup cc = some ⟨cl, cld, .cell (some (.ref C)), csl⟩
section
variable {P : Program} {w : World} {A : Around} {E : Value → Shared → Prop} {R : Result → Shared → Prop} {s : Shared} {K : Frag} {mg mb : Str → Option Value} {C fI : Addr}
theorem init0 (T : Cl0 P K C fI) {x t0 : Addr} {args : Args} (X : K.In s.heap) (hg : s.heap.Ns mainGlobals mg) (hb : s.heap.Ns builtinsNs mb) (hbi : ∀ x : Str, x ≠ "__name__" → mb x = bootBuiltins x) (htop : (P.main.scope.names.lookup ("super" : Str)).isSome = false)
    (hlim : s.heap.NoLimit) (hx : s.heap.get? x = some (excO C t0)) (hnx : K.lookup x = none) (hroom : A.depth < recursionLimit)
    (hbind : ∀ fd : FuncData, (∃ p1, fd.params = eA0 p1) → fd.defaults = .none → fd.kwdefaults = .none → BindsTo s fd args [("self", .ref x)])
    (hq : ∀ h' tk t1, (∀ b o, b ≠ x → s.heap.get? b = some o → h'.get? b = some o) → h'.get? x = some (excO C t1) → R (.ok (.ret .none)) { s with heap := h', toks := tk }) :
    codeAny (model P w) A (.call (.ref fI) args) R s := by
  obtain ⟨oc, od, doc, pm, an, ct, osl, p1, tx, a, b, c, d, e, e', qual, cc, cda, vs, file, tf, ccl, cl, cdd, cld, ccs, csl, ho, hcd, hline, hcode, hvs, hfile, hcell⟩ := T.fn
  obtain ⟨nm, q, N, bs, bm, sn, sub, ab, col, dd, k0, k1, k2, k3, k5, hC, hbm⟩ := T.cls
  have hcl : clsIn K C = some { name := nm, bases := bs, mro := .ref C :: bm, ns := N, qualname := q, hasDict := true, slotNames := sn, subclasses := sub, abstract := ab, collection := col, hasDel := false } := by unfold clsIn; rw [hC] <;> rfl
  have lself : eS0.names.lookup ("self" : Str) = some .local := by decide +kernel
  have lsup : eS0.names.lookup ("super" : Str) = some .globalImplicit := by decide +kernel
  have lcls : eS0.names.lookup ("__class__" : Str) = some .free := by decide +kernel
  have e1 : ([("self", Value.ref x)] : List (Str × Value)).reverse.lookup ("self" : Str) = some (Value.ref x) := by simp [List.lookup]
  refine ks_codeAny_call_defAt (fd := fnX "__init__" qual (eA0 p1) [eB0 tx a b c d e e'] eS0 [("__class__", cc)] .none .none doc pm an (.ref cda) ct) (body := [eB0 tx a b c d e e']) (binds := [("self", .ref x)])
    hroom (X _ _ ho) rfl hlim (codeRec_of X hcd) rfl (hbind _ ⟨_, rfl⟩ rfl rfl) ?_ ?_ (fun h₁ hns hk₁ => ?_)
  · intro y hy
    have z : eS0.names = [(PySem.Str.ofString "self", .local), (PySem.Str.ofString "__class__", .free), (PySem.Str.ofString "super", .globalImplicit)] := rfl
    rw [show (fnX "__init__" qual (eA0 p1) [eB0 tx a b c d e e'] eS0 [("__class__", cc)] .none .none doc pm an (.ref cda) ct).scope.names = _ from z] at hy
    simp only [List.mem_cons, List.not_mem_nil, or_false] at hy
    rcases hy with rfl | rfl | rfl <;> exact fun z => nomatch z
  · intro y hy
    simp only [List.mem_cons, List.not_mem_nil, or_false] at hy
    subst hy
    exact lself
  have X₁ : K.In h₁ := X.keeps hk₁
  have hx₁ := hk₁ _ _ hx
  have hxL : s.heap.objs.size ≠ x := Nat.ne_of_gt (Heap.lt_size hx)
  obtain ⟨hp, gs, dr, tk, os⟩ := s
  refine ks_wpAt_execs_cons ?_
  show _root_.PySem.wpAt _ _ _ (exec (.Expr (.Call (.Attribute (.Call (.Name "super" a) [] [] b) "__init__" c) [.Constant (.str tx) 0 d] [] e) e') _) _ _ _
  refine ks_wpAt_Expr_any ?_ (by rfl) (by rfl)
  refine ks_wpAt_MethodCall (pl := (do return (← importBound (.Call (.Name "super" a) [] [] b) (callEnv (fnX "__init__" qual (eA0 p1) [eB0 tx a b c d e e'] eS0 [("__class__", cc)] .none .none doc pm an (.ref cda) ct) hp.objs.size fI)).getD true)) ?_ (he_of hline)
  have hClo : h₁.get? C = some _ := X₁ _ _ hC
  -- super()
  refine ks_wpAt_super_base (env := callEnv (fnX "__init__" qual (eA0 p1) [eB0 tx a b c d e e'] eS0 [("__class__", cc)] .none .none doc pm an (.ref cda) ct) hp.objs.size fI) lsup lcls (by decide +kernel) rfl (X₁ _ _ ho) rfl rfl rfl (X₁ _ _ hcode) rfl hvs hfile htop ?_
  refine ks_loadName_global rfl lsup (loadGlobal_builtin (env := callEnv (fnX "__init__" qual (eA0 p1) [eB0 tx a b c d e e'] eS0 [("__class__", cc)] .none .none doc pm an (.ref cda) ct) hp.objs.size fI) (hg.keeps hk₁) (mg_none_of X hg T.spr) (hb.keeps hk₁) ((hbi _ (by decide +kernel)).trans (by decide +kernel)) ⟨rfl, ?_⟩)
  refine wpAny_loadName_free rfl lcls rfl ⟨_, X₁ _ _ hcell, rfl⟩ ?_
  refine wpAny_loadName_local (v := .ref x) rfl lself hns e1 ?_
  refine ks_wpAny_isType_cls hClo rfl ⟨rfl, ?_⟩
  refine ks_wpAny_call_super hClo rfl hx₁ rfl (fun c e => nomatch e) (looks_mroIn X₁ T.sub) (fun h₂ hso k₂ => ?_)
  have X₂ : K.In h₂ := X₁.keeps k₂
  have hx₂ := k₂ _ _ hx₁
  have I₂ : InstAt h₂ x (excO C t0) C none := ⟨hx₂, rfl, rfl, trivial⟩
  have hxC : x ≠ C := fun z => by rw [z, hC] at hnx; cases hnx
  -- .__init__
  refine kxs_getMethod kxs_ValueError hso (looks_opaque X₂ T.opq) (l₀ := .ref C :: bm) (l := ((Value.ref C :: bm).dropWhile (· != .ref C)).drop 1) (fun A Q E s k q => wpAny_bind ((looks_clsIn X₂ hcl) A _ E s k (wpAny_pure q))) rfl X₂ ?_ (I₂.type.andThen (looks_subIn X₂ T.subV)) hxC (by decide +kernel) ?_
  · have z := T.sup
    unfold ks_superIn at z
    rw [hcl] at z
    exact z
  -- its call
  show wpAny _ _ (callWith e (.ref h₂.objs.size) [] (backTo e (starEach [.Constant (.str tx) 0 d] _)) []) _ _ _
  have hso₃ : (h₂.push (kxs_mw "ValueError.__init__" x)).get? h₂.objs.size = some (kxs_mw "ValueError.__init__" x) := Heap.get?_push_at rfl rfl
  have hx₃ : (h₂.push (kxs_mw "ValueError.__init__" x)).get? x = some (excO C t0) := Heap.get?_push_of_some _ hx₂
  refine kxs_callWith (i := "ValueError.__init__") (x := x) rfl (evalArgs_plain (spliced_cons (Calls.Constant_str (pos := d) (k := 0) (spliced_nil ⟨hso₃, ?_⟩))))
  show wpAny _ _ (call (.ref h₂.objs.size) [_]) _ _ _
  -- all that stood at the entry but x is the base of the walk
  have hb0 : ∀ y o, hp.get? y = some o → y ≠ x → (hideAll hp [x]).get? y = some o := fun y o z n => hideAll_get _ z (by simpa using n)
  have hb1 : ∀ y o, (hideAll hp [x]).get? y = some o → hp.get? y = some o ∧ y ≠ x := fun y o z => ⟨of_hideAll _ z, fun q => by rw [q, hideAll_none _ (by simp)] at z; cases z⟩
  have X0 : K.In (hideAll hp [x]) := fun y o z => hb0 y o (X y o z) fun q => by rw [q, hnx] at z; cases z
  have k₃ : ∀ y o, h₁.get? y = some o → (h₂.push (kxs_mw "ValueError.__init__" x)).get? y = some o := fun y o z => Heap.get?_push_of_some _ (k₂ y o z)
  have F₃ : Fr (hideAll hp [x]) hp.objs.size (h₂.push (kxs_mw "ValueError.__init__" x)) _ := ⟨hns.at fun o q => k₃ _ o q, fun y o z => k₃ y o (hk₁ y o (hb1 y o z).1), by rw [hideAll_size]; exact Nat.le_refl _⟩
  have n2 : ∀ y, hp.objs.size ≤ y → (hideAll hp [x]).get? y = none := fun y n => by
    cases z : (hideAll hp [x]).get? y with
    | none => rfl
    | some o => exact absurd (Heap.lt_size (hb1 y o z).1) (Nat.not_lt.mpr n)
  have l2 : hp.objs.size < h₂.objs.size := Heap.lt_size (k₂ _ _ hns.choose_spec.choose_spec.choose_spec.1)
  have ux : h₂.objs.size ≠ x := fun q => absurd (Heap.lt_size hx) (by rw [← q]; exact Nat.not_lt.mpr (Nat.le_of_lt l2))
  have N₃ : News (hideAll hp [x]) hp.objs.size (h₂.push (kxs_mw "ValueError.__init__" x)) [(h₂.objs.size, kxs_mw "ValueError.__init__" x), (x, excObj C t0 none .none)] := by
    intro p hp'
    rcases List.mem_cons.mp hp' with rfl | hp'
    · exact ⟨hso₃, Nat.ne_of_gt l2, n2 _ (Nat.le_of_lt l2)⟩
    · obtain rfl := List.mem_singleton.mp hp'
      exact ⟨hx₃, hxL.symm, hideAll_none _ (by simp)⟩
  refine kxs_call (i := "ValueError.__init__") (c2 := .none) F₃ X0 N₃ F.excBase_ValueError T.exI (List.mem_cons_self ..) (.tail ux (.head (fun p hp => nomatch hp))) (by show 1 ≤ sizeLine; rw [sizeLine_eq]; decide) (fun t1 h₄ F₄ N₄ _ => ?_)
  have hx₄ : h₄.get? x = some (excO C t1) := (N₄ (x, excObj C t1 none .none) (by simp)).1
  have kk : ∀ b o, b ≠ x → hp.get? b = some o → h₄.get? b = some o := fun b o n z => F₄.keep b o (hb0 b o z n)
  exact _root_.PySem.wpAt_of_wpAny (wpAny_execs_nil (hq h₄ _ t1 kk hx₄))
end
end OE
namespace OE
open PySem PySem.Spec PyProof.Rows L2
/-! ### two new objects at once -/
section
variable {P : Program} {w : World} {fs ex : List Addr} {H : Hp} {h h' : Heap} {a b : Addr} {o u : HO}
theorem upd2_at {x : Addr} (ha : H a = none) (hb : H b = none) {v : HO} (e : H x = some v) : upd (upd H b u) a o x = some v := by
  rw [upd_ne (ne_of_none e ha), upd_ne (ne_of_none e hb)]
  exact e
theorem un2 (k : ∀ x z, h.get? x = some z → h'.get? x = some z) (na : h.get? a = none) (nb : h.get? b = none) (ha : H a = none) (hb : H b = none) : Un fs ex H (upd (upd H b u) a o) h h' := by
  have out : ∀ x z, h.get? x = some z → x ≠ a ∧ x ≠ b := fun x z e => ⟨fun q => (by rw [q, na] at e; cases e), fun q => (by rw [q, nb] at e; cases e)⟩
  constructor
  · exact fun x z e _ _ _ => k x z e
  · exact fun x z e _ _ _ => ⟨z.slots, k x z e⟩
  · intro x z e n _
    rw [upd_ne (out x z e).1, upd_ne (out x z e).2]
    exact n
  · exact fun x z e _ => ⟨z, k x z e⟩
  · exact fun x xs e => upd2_at ha hb e
  · exact fun x z v e => upd2_at ha hb e
  · exact fun x ps e => ⟨#[], by rw [upd2_at ha hb e]; simp⟩
theorem hok2 (ok : HOk P w H h) (k : ∀ x z, h.get? x = some z → h'.get? x = some z) (ha : H a = none) (hb : H b = none) (na : ObjOk P w (upd (upd H b u) a o) h' a o) (nb : ObjOk P w (upd (upd H b u) a o) h' b u) : HOk P w (upd (upd H b u) a o) h' := by
  intro x v e
  by_cases xa : x = a
  · subst xa
    rw [upd_same] at e
    cases e
    exact na
  · by_cases xb : x = b
    · subst xb
      rw [upd_ne xa, upd_same] at e
      cases e
      exact nb
    · rw [upd_ne xa, upd_ne xb] at e
      exact (ok x v e).stay (fun c z _ q => k c z q) (fun c q => upd2_at ha hb q) fun c xs q => upd2_at ha hb q
end
/-! ### an error as a value -/
/-- the error at a, of the class at C, keeps v as f -/
def Kept (H : Hp) (a C : Addr) (f : Str) (v : V) : Prop := ∃ d, H a = some (exo a C (some d)) ∧ H d = some (exd d [(f, v)])
def tMk (C : Addr) (f : Str) (te : TE) : TE := fun σ H Q => te σ H fun v H1 => ∀ a d, H1 a = none → H1 d = none → d ≠ a → Q (.ref a) (upd (upd H1 d (exd d [(f, v)])) a (exo a C (some d)))
/-- how the arguments of __init__ bind -/
def Bds (f : Str) : Prop := ∀ (fd : FuncData), (∃ p1 p2, fd.params = eA f p1 p2) → fd.defaults = .none → fd.kwdefaults = .none → ∀ (x : Addr) (u : Value), bindArgs fd ⟨[.ref x, u], []⟩ = pure ([("self", .ref x), (f, u)] : List (Str × Value)) ∧ bindArgs fd ⟨[.ref x], [(f, u)]⟩ = pure ([("self", .ref x), (f, u)] : List (Str × Value))
section
variable {X : Cx} {C fI : Addr} {f x : Str} {k : Nat}
theorem make_run {pins : List (Addr × Obj)} {σ : L2.St} {H : Hp} {s : Shared} {v : V} {u : Value} {xs : List Value} {kw : List (Str × Value)} {Q : VK} (T : Cl1 X.prog X.K C fI f) (hr : Room (k + 1) X.A) (htop : (X.prog.main.scope.names.lookup ("super" : Str)).isSome = false) (I : Inv X pins σ H s)
    (hl : xs.length ≤ sizeLine) (hbd : ∀ (fd : FuncData), (∃ p1 p2, fd.params = eA f p1 p2) → fd.defaults = .none → fd.kwdefaults = .none → ∀ (x : Addr), bindArgs fd ⟨.ref x :: xs, kw⟩ = pure ([("self", .ref x), (f, u)] : List (Str × Value))) (rv : RelV v u)
    (q : ∀ a d, H a = none → H d = none → d ≠ a → Q (.ref a) (upd (upd H d (exd d [(f, v)])) a (exo a C (some d)))) : wpAny (model X.prog X.w) X.A (call (.ref C) xs kw) (EP X pins σ Q) X.xe s := by
  obtain ⟨nm, qn, N, bs, bm, sn, sub, ab, col, dd, k0, k1, k2, k3, k5, hC, hbm⟩ := T.cls
  obtain ⟨mb, nb, hbi⟩ := I.mod.blt
  obtain ⟨hp, g, dr, tk, os⟩ := s
  have kp : ∀ b o, hp.get? b = some o → (newHp hp C xs).get? b = some o := fun b o e => Heap.get?_push_of_some _ (Heap.get?_push_of_some _ e)
  have bk : ∀ b o, X.base.get? b = some o → (newHp hp C xs).get? b = some o := fun b o e => kp b o (I.bk b o e)
  have ox : (newHp hp C xs).get? (hp.objs.size + 1) = some (PySem.HandSPX.excO C hp.objs.size) := by heap_get
  have KX : X.K.In (newHp hp C xs) := I.mod.kin.keeps bk
  have nx : hp.get? (hp.objs.size + 1) = none := Heap.get?_none_of_le (Nat.le_succ _)
  have nK : X.K.lookup (hp.objs.size + 1) = none := by
    cases z : X.K.lookup (hp.objs.size + 1) with
    | none => rfl
    | some o =>
      have y : hp.get? _ = some o := I.kIn _ _ z
      rw [nx] at y
      cases y
  refine wpAny_call (call_any F.excBase_ValueError (fun Y => PySem.HandSPX.refsVE_contains Y bm hbm) (I.kIn _ _ hC) hl (PySem.W.looks_findIn I.kIn T.iC) (fun self => PySem.W.bind_fn I.kIn self T.tC) ?_)
  refine init1 T (x := hp.objs.size + 1) (t0 := hp.objs.size) (v := u) KX (I.mod.glob.keeps bk) (nb.keeps bk) hbi htop (I.mod.nolimit.keeps bk) ox nK ?_ (fun fd h1 h2 h3 => BindsTo.of_eq (hbd fd h1 h2 h3 _)) ?_
  · rw [make_depth]
    have := hr.dp
    omega
  · intro h' tk' d t1 E
    have k' : ∀ b o, hp.get? b = some o → h'.get? b = some o := fun b o e => E.keep b o (Nat.ne_of_lt (Nat.lt_succ_of_lt (Heap.lt_size e))) (kp b o e)
    have hsz : (newHp hp C xs).objs.size = hp.objs.size + 2 := by rw [newHp, Heap.size_push, Heap.size_push]
    have db := E.dbig
    have db2 : hp.objs.size ≤ d := by
      have z : (newHp hp C xs).objs.size ≤ d := db
      omega
    have nd : hp.get? d = none := Heap.get?_none_of_le db2
    have ha : H (hp.objs.size + 1) = none := I.hok.fresh (Nat.le_succ _)
    have hd : H d = none := I.hok.fresh db2
    refine ⟨rfl, .ref (hp.objs.size + 1), _, I.un (t' := tk') (un2 k' nx nd ha hd) (hok2 I.hok k' ha hd (exo_ok E.obj) (exd_ok E.ns fun g => ?_)), rfl, q _ d ha hd E.dne⟩
    exact relO_put (fs := []) (mA := fun _ => none) rv (fun _ => True.intro) g
end
end OE
namespace OB
open PySem PySem.Spec PyProof.Rows L2
/-! ### an own error with a field, raised -/
theorem relO_one {v : V} {u : Value} (r : RelV v u) (f g : Str) : RelO (List.lookup g [(f, v)]) (if g = f then some u else none) := by
  by_cases e : g = f
  · subst e
    rw [if_pos rfl]
    have z : List.lookup g [(g, v)] = some v := by simp [List.lookup]
    rw [z]
    exact r
  · rw [if_neg e]
    have z1 : (g == f) = false := by simpa using e
    have z : List.lookup g [(f, v)] = none := by simp [List.lookup, z1]
    rw [z]
    trivial
def tMkE (C : Addr) (f : Str) (ta : TA) : L2.St → Hp → XK → Prop := fun σ H Q => ta σ H fun vs H1 => ∃ v, vs = [v] ∧ ∀ d, H1 d = none → Q (.ref C) (some d) (upd H1 d (.xd [(f, v)]))
section
variable {X : Cx} {C fI : Addr} {f x : Str} {k : Nat} {a : Expr} {ta : TA} {p pos : Pos}
theorem pmk_err (T : OE.Cl1 X.prog X.K C fI f) (B : OE.Bds f) (hr : Room (k + 1) X.A) (htop : (X.prog.main.scope.names.lookup ("super" : Str)).isSome = false) (hg : Gl X x) (hm : X.mg x = some (.ref C)) (hk : PySem.W.keepIn X.K (.ref C) = true)
    (ex : PySem.W.subIn X.K (.ref C) (.type "BaseException") = some true) (ty : PySem.W.typeIn X.K (.ref C) = some (.type "type")) (ha : PA X [a] ta) (hdb : (x == ("__debug__" : Str)) = false)
    (he : starEach [a] X.env = (false, eval a X.env) :: starEach [] X.env := by rfl) (hpl : (backTo pos (starEach [] X.env)).any (·.1) = false := by rfl) :
    PMk X (.Call (.Name x p) [a] [] pos) (tMkE C f ta) := by
  intro pins s σ H Q I h
  refine wpAny_Call_Name_kw (ld_glob I hg hm ?_ hdb)
  refine PySem.W.callWith_K (h₀ := X.base) I.ok.mod.kin hk (thn (ha.run pos pins s σ H _ I h) fun us s1 hh => ?_) he hpl
  obtain ⟨vs, H1, I1, r1, v, rfl, q1⟩ := hh
  refine ⟨I1.kIn, ?_⟩
  cases r1 with
  | @cons _ u _ _ rv rn =>
    cases rn
    show wpAny _ _ (call (.ref C) [u]) _ _ _
    obtain ⟨nm, qn, N, bs, bm, sn, sub, ab, col, dd, k0, k1, k2, k3, k5, hC, hbm⟩ := T.cls
    obtain ⟨mb, nb, hbi⟩ := I1.mod.blt
    have hlim := I1.mod.nolimit
    have bk0 := I1.bk
    obtain ⟨hp, g, dr, tk, os⟩ := s1
    have kp : ∀ b o, hp.get? b = some o → (OE.newHp hp C [u]).get? b = some o := fun b o e => Heap.get?_push_of_some _ (Heap.get?_push_of_some _ e)
    have bk : ∀ b o, X.base.get? b = some o → (OE.newHp hp C [u]).get? b = some o := fun b o e => kp b o (bk0 b o e)
    have ox : (OE.newHp hp C [u]).get? (hp.objs.size + 1) = some (PySem.HandSPX.excO C hp.objs.size) := by heap_get
    have nx : hp.get? (hp.objs.size + 1) = none := Heap.get?_none_of_le (Nat.le_succ _)
    have nK : X.K.lookup (hp.objs.size + 1) = none := by
      cases z : X.K.lookup (hp.objs.size + 1) with
      | none => rfl
      | some o =>
        have y : hp.get? _ = some o := I1.kIn _ _ z
        rw [nx] at y
        cases y
    refine wpAny_call (OE.call_any F.excBase_ValueError (fun Y => PySem.HandSPX.refsVE_contains Y bm hbm) (I1.kIn _ _ hC) (by show 1 ≤ sizeLine; rw [sizeLine_eq]; omega) (PySem.W.looks_findIn I1.kIn T.iC) (fun self => PySem.W.bind_fn I1.kIn self T.tC) ?_)
    refine OE.init1 T (x := hp.objs.size + 1) (t0 := hp.objs.size) (v := u) (I1.mod.kin.keeps bk) (I1.mod.glob.keeps bk) (nb.keeps bk) hbi htop (hlim.keeps bk) ox nK ?_ (fun fd h1 h2 h3 => BindsTo.of_eq (B fd h1 h2 h3 _ u).1) ?_
    · rw [make_depth]
      have := hr.dp
      omega
    · intro h' tk' d t1 M
      have k' : ∀ b o, hp.get? b = some o → h'.get? b = some o := fun b o e => M.keep b o (Nat.ne_of_lt (Nat.lt_succ_of_lt (Heap.lt_size e))) (kp b o e)
      have hsz : (OE.newHp hp C [u]).objs.size = hp.objs.size + 2 := by rw [OE.newHp, Heap.size_push, Heap.size_push]
      have db : (OE.newHp hp C [u]).objs.size ≤ d := M.dbig
      have db2 : hp.objs.size ≤ d := by omega
      have hns := M.ns
      refine ⟨rfl, ?_⟩
      show MkP X pins σ Q (.ref (hp.objs.size + 1)) ⟨h', g, dr, tk', os⟩
      obtain ⟨G', g1, g2⟩ := restrict h' fun b => decide (b ≠ hp.objs.size + 1)
      have gk : ∀ b, b ≠ hp.objs.size + 1 → G'.get? b = h'.get? b := fun b hb => g1 b (decide_eq_true hb)
      have ge : G'.get? (hp.objs.size + 1) = none := g2 _ (by simp)
      have old : ∀ b o, hp.get? b = some o → G'.get? b = some o := fun b o q => (gk b (Nat.ne_of_lt (Nat.lt_succ_of_lt (Heap.lt_size q)))).trans (k' b o q)
      have made : ObjOk X.prog X.w (upd H1 d (.xd [(f, v)])) G' d (.xd [(f, v)]) := ⟨_, hns.at (fun o q => (gk d M.dne).trans q), fun y => relO_one rv f y⟩
      have J : Inv X pins σ (upd H1 d (.xd [(f, v)])) ⟨G', g, dr, tk', os⟩ := I1.laid (t' := tk') old db2 made
      refine ⟨hp.objs.size + 1, _, _, ⟨G', g, dr, tk', os⟩, _, .ref C, some d, rfl, J, fun b o q => ?_, ge, M.obj, ⟨rfl, rfl⟩, rfl, rfl, ?_, rfl, I1.bare, raises_own ex ty, q1 d (I1.hok.fresh db2)⟩
      · by_cases hb : b = hp.objs.size + 1
        · have q' : G'.get? b = some o := q
          rw [hb, ge] at q'
          cases q'
        · exact (gk b hb).symm.trans q
      · rw [upd_ne (Ne.symm M.dne)]
        exact I1.hok.fresh (Nat.le_succ _)
end
end OB
namespace OB
open PySem PySem.Spec PyProof.Rows L2
open Sem (wp)
/-! ### enumerate over a tuple -/
theorem meets_en1 {v : Value} {o : Obj} {H : Heap → Prop} (B : Begins v o H) :
    Meets (Builtin.«enumerate.__new__» ⟨[.type "enumerate", v], []⟩) (fun _ R s => H s.heap ∧
      R (.ok (.ret (.ref (s.heap.push o).objs.size))) { s with heap := (s.heap.push o).push { cls := .type "enumerate", data := .fields #[.none, .bool false, .ref s.heap.objs.size, rawInt 0, .none, .none] } }) :=
  .of_wp fun prog w A R s hh => by
    obtain ⟨hp, gs, dr, tk, os⟩ := s
    obtain ⟨stands, fin⟩ := hh
    have isE := sub_enumerate
    have begin' : ∀ {A' : Around} {E : Value → Shared → Prop} {Q : Value → Shared → Prop}, Q (.ref hp.objs.size) ⟨hp.push o, gs, dr, tk, os⟩ → wpAny (model prog w) A' (pyIter v) Q E ⟨hp, gs, dr, tk, os⟩ := fun q => B.iter prog w _ _ ⟨hp, gs, dr, tk, os⟩ _ stands q
    wp_walk using begin'
    refine wpAny_stack_any fun st => wpAny_pure ?_
    split
    · rename_i c _ _ _ _ _
      cases (c == Value.type "enumerate") <;> (wp_walk using begin'; exact ⟨_, rfl, fin⟩)
    · wp_walk using begin'
      exact ⟨_, rfl, fin⟩
section
variable {prog : Program} {w : World} {A : Around} {E : Value → Shared → Prop} {s : Shared}
theorem call_en1 {v : Value} {o : Obj} {H : Heap → Prop} {Q : Value → Shared → Prop} (B : Begins v o H) (h1 : H s.heap)
    (fin : ∀ h', IsEnum h' (s.heap.objs.size + 1) s.heap.objs.size 0 .none → h'.get? s.heap.objs.size = some o → h'.objs.size = s.heap.objs.size + 2 → (∀ b o, s.heap.get? b = some o → h'.get? b = some o) → Q (.ref (s.heap.objs.size + 1)) { s with heap := h' }) :
    wpAny (model prog w) A (call (.type "enumerate") [v]) Q E s := by
  refine callType_new F.called_enumerate (by decide) (F.typeCall_enumerate_1 _) (F.newCall_enumerate_1 _) (fun obj => F.args_object_init_2 obj _) F.entry_enumerate_new (meets_en1 B) ⟨h1, ?_⟩
  have sz : (s.heap.push o).objs.size = s.heap.objs.size + 1 := Heap.size_push ..
  show _ ∧ _
  rw [sz]
  have isE : IsEnum ((s.heap.push o).push { cls := .type "enumerate", data := .fields #[.none, .bool false, .ref s.heap.objs.size, rawInt 0, .none, .none] }) (s.heap.objs.size + 1) s.heap.objs.size 0 .none := by
    have z := Heap.get?_push_size (s.heap.push o) (o := { cls := .type "enumerate", data := .fields #[.none, .bool false, .ref s.heap.objs.size, rawInt 0, .none, .none] }) rfl
    rw [sz] at z
    exact z
  exact ⟨⟨_, isE, rfl⟩, fin _ isE (Heap.get?_push_of_some _ (Heap.get?_push_size _ B.free)) (by rw [Heap.size_push, sz]) fun b o x => Heap.get?_push_of_some _ (Heap.get?_push_of_some _ x)⟩
end
/-- the tuple at a, each item in a new pair with its place -/
def IteT (K : PySem.W.Frag) (a : Addr) : It :=
  ⟨fun i H => ∃ (xs : List V) (x : V), SqT K H a xs ∧ xs[i]? = some x, fun i H v H' => ∃ T x, v = .ref T ∧ H T = none ∧ H' = upd H T (.tup [.int (i : Nat), x]) ∧ ∀ xs, SqT K H a xs → xs[i]? = some x, fun i H => ∃ xs : List V, SqT K H a xs ∧ xs.length = i⟩
theorem tup_ne {h : Heap} {a it : Addr} {items : Array Value} {i : Nat} (p : h.IsTuple a items) (q : h.IsTupleIter it a i) : a ≠ it := fun z => by
  obtain ⟨o, e, c, _⟩ := p
  obtain ⟨o2, e2, c2, _⟩ := q
  rw [z, e2] at e
  cases e
  rw [c2] at c
  exact absurd c (by decide)
theorem turn_enT {P : Program} {w : World} {K : PySem.W.Frag} {elts : List Expr} {kk : Nat} {tpos : Pos} (a e it : Addr) :
    Turn P w K (.Tuple elts kk tpos) (IteT K a) [e, it] e (fun i h => (∃ old, IsEnum h e it (0 + (i : Int)) old) ∧ h.IsTupleIter it a i ∧ e ≠ it) where
  mem := by simp
  obj := fun i h st b hb => by
    obtain ⟨⟨old, he⟩, ⟨o, ho, hc, hd⟩, _⟩ := st
    rcases (show b = e ∨ b = it by simpa using hb) with z | z
    · rw [z]
      exact ⟨_, he, fun v q => nomatch q⟩
    · rw [z]
      exact ⟨o, ho, fun v q => by rw [hd] at q; cases q⟩
  keep := fun i h h' st k => by
    obtain ⟨⟨old, he⟩, hi, hne⟩ := st
    exact ⟨⟨old, k e (by simp) _ he⟩, hi.at fun o q => k it (by simp) o q, hne⟩
  item := by
    intro X hP hw hK hc i pins s σ H E I hf st hg
    subst hP hw hK
    obtain ⟨⟨old, he⟩, hit, hne⟩ := st
    obtain ⟨xs, x, hq, hx⟩ := hg
    obtain ⟨its, rv, p, hz⟩ := I.tuple hq
    have p' : s.heap.IsTuple a its.toArray := p
    have ea : e ≠ a := fun z => by
      obtain ⟨o, eo, c, _⟩ := p'
      rw [← z, he] at eo
      cases eo
      exact absurd (show Value.type "enumerate" = Value.type "tuple" from c) (by decide)
    have D := Draws.tuple (prog := X.prog) (w := X.w) (A := X.A.in1) (I.ok.hd hc) it a (tup_ne p' hit) its.toArray
    have G := GoesN.enumFrom (elts := elts) (x1 := kk) (pos := tpos) 0 D e hne (by simp [hne, ea]) (by simp)
    have hi : i < its.toArray.size := by
      have l := rv.length
      have l2 : i < xs.length := (List.getElem?_eq_some_iff.mp hx).1
      simp
      omega
    have hlt : ∀ b ∈ [e, it], b < s.heap.objs.size := fun b hb => by
      rcases (show b = e ∨ b = it by simpa using hb) with z | z
      · rw [z]
        exact Heap.lt_size he
      · rw [z]
        obtain ⟨_, q, _⟩ := hit
        exact Heap.lt_size q
    refine G.goes i s _ _ hi ⟨⟨old, he⟩, hit, p'⟩ fun v h' tk hY st' hk htk => ?_
    obtain ⟨T, t, u, rfl, hT, hu, hTup⟩ := hY
    obtain ⟨⟨old', he'⟩, hit', _⟩ := st'
    have hu' : its[i]? = some u := by simpa using hu
    obtain ⟨u2, hu2, ru⟩ := rv.get hx
    rw [hu'] at hu2
    cases hu2
    obtain ⟨oT, eT, cT, nT, dT⟩ := hTup
    have new : ObjOk X.prog X.w (upd H T (.tup [.int (i : Nat), x])) h' T (.tup [.int (i : Nat), x]) :=
      ⟨by show 2 ≤ sizeLine; decide, [.int (0 + (i : Int)) t, u], .cons ⟨t, by rw [Int.zero_add]⟩ (.cons ru .nil), ⟨oT, eT, cT, nT, dT⟩⟩
    have I1 : Inv X pins σ (upd H T (.tup [.int (i : Nat), x])) { s with heap := h', toks := tk } := I.turnedNew (t' := tk) (ch := [e, it]) hk hf hT new
    exact ⟨.ref T, _, I1, rfl, ⟨T, x, rfl, I.hok.fresh hT, rfl, fun ys hy => by rw [I.tuple_inj hy hq]; exact hx⟩, ⟨⟨old', he'⟩, hit', hne⟩, fun b hb => by
      rw [upd_ne (Nat.ne_of_lt (Nat.lt_of_lt_of_le (hlt b hb) hT))]
      exact (hf b hb).1⟩
  done := by
    intro X hP hw hK hc i pins s σ H E I hf st hg
    subst hP hw hK
    obtain ⟨⟨old, he⟩, hit, hne⟩ := st
    obtain ⟨xs, hq, hx⟩ := hg
    obtain ⟨its, rv, p, hz⟩ := I.tuple hq
    have p' : s.heap.IsTuple a its.toArray := p
    have ea : e ≠ a := fun z => by
      obtain ⟨o, eo, c, _⟩ := p'
      rw [← z, he] at eo
      cases eo
      exact absurd (show Value.type "enumerate" = Value.type "tuple" from c) (by decide)
    have D := Draws.tuple (prog := X.prog) (w := X.w) (A := X.A.in1) (I.ok.hd hc) it a (tup_ne p' hit) its.toArray
    have G := GoesN.enumFrom (elts := elts) (x1 := kk) (pos := tpos) 0 D e hne (by simp [hne, ea]) (by simp)
    have hn : its.toArray.size = i := by
      have l := rv.length
      simp
      omega
    refine G.stops s _ _ (by rw [hn]; exact ⟨⟨old, he⟩, hit, p'⟩) fun h' tk hk htk => ?_
    exact I.turnedL (t' := tk) (ch := [e, it]) hk hf
  self := fun A i s Q E st h => by
    obtain ⟨⟨_, he⟩, _⟩ := st
    exact wpAny_pyIter_enum he h
def iEnT (K : PySem.W.Frag) (ta : TA) : TI := fun σ H R => ta σ H fun vs H1 => ∃ a xs, vs = [.ref a] ∧ ((SqL K H1 a xs ∧ R (Ite K a) H1) ∨ (SqT K H1 a xs ∧ R (IteT K a) H1))
theorem pi_enT {X : Cx} {e : Expr} {ta : TA} {p pos tpos : Pos} {elts : List Expr} {kk : Nat} (hg : Gl X "enumerate") (hm : X.mg "enumerate" = none) (ha : PA X [e] ta) (hs : starEach [e] X.env = [(false, eval e X.env)] := by rfl) :
    PI X (.Tuple elts kk tpos) (.Call (.Name "enumerate" p) [e] [] pos) (iEnT X.K ta) := by
  refine ⟨fun pins s σ H R I h => ?_⟩
  refine Call_ (ld_blt I hg hm boot_enumerate (PyProof.Rows.callWith_type1 (thn (ha.run pos pins s σ H _ I h) fun us s1 ⟨vs, H1, I1, r1, q1⟩ => ?_) hs rfl))
  obtain ⟨a, xs, rfl, q1⟩ := q1
  have fresh2 : ∀ b, b ∈ [s1.heap.objs.size + 1, s1.heap.objs.size] → FpOk X pins H1 b := fun b hb => by
    have le : s1.heap.objs.size ≤ b := by
      rcases (show b = s1.heap.objs.size + 1 ∨ b = s1.heap.objs.size by simpa using hb) with z | z <;> omega
    exact I1.fpOk le (I1.hok.fresh le)
  cases r1 with
  | cons r rr =>
    cases rr
    cases r
    rcases q1 with ⟨hq, q⟩ | ⟨hq, q⟩
    · obtain ⟨its, rv, p', hz⟩ := I1.list hq
      refine call_enumerate_list p'.isList fun h' he hit hsz hk => wpAny_pyIter_enum he ?_
      exact ⟨s1.heap.objs.size + 1, [s1.heap.objs.size + 1, s1.heap.objs.size], _, _, H1, rfl, I1.kept (t' := s1.toks) hk, turn_enum a (s1.heap.objs.size + 1) s1.heap.objs.size, ⟨⟨.none, he⟩, hit, Nat.succ_ne_self _⟩, fresh2, q⟩
    · obtain ⟨its, rv, p', hz⟩ := I1.tuple hq
      have pT : s1.heap.IsTuple a its.toArray := p'
      refine call_en1 (begins_tuple a its.toArray) pT fun h' he ho hsz hk => wpAny_pyIter_enum he ?_
      exact ⟨s1.heap.objs.size + 1, [s1.heap.objs.size + 1, s1.heap.objs.size], _, _, H1, rfl, I1.kept (t' := s1.toks) hk, turn_enT a (s1.heap.objs.size + 1) s1.heap.objs.size, ⟨⟨.none, he⟩, ⟨_, ho, rfl, rfl⟩, Nat.succ_ne_self _⟩, fresh2, q⟩
/-- a loop over enumerate of a tuple -/
theorem for_enT {K : PySem.W.Frag} {a : Addr} {xs : List V} {g : TG} {tb : TS} {D : Ends} {σ : L2.St} {H : Hp} (Pv : Nat → L2.St → Hp → Prop) (h0 : Pv 0 σ H) (hq : ∀ i σ H, Pv i σ H → SqT K H a xs)
    (hs : ∀ (i : Nat) (x : V) (T : Addr) (σ : L2.St) (H : Hp), xs[i]? = some x → Pv i σ H → H T = none → g (.ref T) σ (upd H T (.tup [.int (i : Nat), x])) fun σ2 H2 => tb { D with nx := Pv (i + 1), ct := Pv (i + 1), bk := D.nx } σ2 H2) (hd : ∀ σ H, Pv xs.length σ H → D.nx σ H) :
    ∃ W : Nat → Nat → L2.St → Hp → Prop, (∃ m, W 0 m σ H) ∧ ∀ i m σ H, W i m σ H →
      ((IteT K a).stop i H ∧ D.nx σ H) ∨ ((IteT K a).go i H ∧ ∃ N : L2.St → Hp → Prop, (∀ σ' H', N σ' H' → ∃ m', m' < m ∧ W (i + 1) m' σ' H') ∧ ∀ v H', (IteT K a).yld i H v H' → g v σ H' fun σ2 H2 => tb { D with nx := N, ct := N, bk := D.nx } σ2 H2) := by
  refine ⟨fun i m σ H => m = xs.length - i ∧ i ≤ xs.length ∧ Pv i σ H, ⟨xs.length, rfl, Nat.zero_le _, h0⟩, ?_⟩
  rintro i m σ H ⟨rfl, hi, p⟩
  have q := hq i σ H p
  by_cases hlt : i < xs.length
  · refine .inr ⟨⟨xs, xs[i], q, List.getElem?_eq_getElem hlt⟩, Pv (i + 1), fun σ' H' p' => ⟨xs.length - (i + 1), by omega, rfl, hlt, p'⟩, fun v H' y => ?_⟩
    obtain ⟨T, x, rfl, hT, rfl, hx⟩ := y
    exact hs i x T σ H (hx xs q) p hT
  · have e : i = xs.length := by omega
    subst e
    exact .inl ⟨⟨xs, q, rfl⟩, hd σ H p⟩
end OB
namespace OB
open PySem PySem.Spec PyProof.Rows L2
open Sem (wp)
/-! ### zip of a text with a list or a tuple -/
def SqX (tp : Bool) (K : PySem.W.Frag) (H : Hp) (b : Addr) (ys : List V) : Prop := match tp with
  | true => SqT K H b ys
  | false => SqL K H b ys
def StX (tp : Bool) (it b : Addr) (i : Nat) (h : Heap) : Prop := match tp with
  | true => h.IsTupleIter it b i
  | false => h.IsListIter it b i
def SeqX (tp : Bool) (b : Addr) (items : Array Value) (h : Heap) : Prop := match tp with
  | true => h.IsTuple b items
  | false => h.IsList b items
def itObj (tp : Bool) (b : Addr) : Obj := match tp with
  | true => { cls := .type "tuple_iterator", data := .fields #[.ref b, .int 0 0] }
  | false => { cls := .type "list_iterator", data := .fields #[.ref b, .int 0 0] }
theorem stX_obj {tp : Bool} {it b : Addr} {i : Nat} {h : Heap} (st : StX tp it b i h) : ∃ o, h.get? it = some o ∧ o.data = .fields #[.ref b, .int i 0] := by
  cases tp with
  | true =>
    obtain ⟨o, e, _, d⟩ := st
    exact ⟨o, e, d⟩
  | false =>
    obtain ⟨o, e, _, d⟩ := st
    exact ⟨o, e, d⟩
theorem stX_at {tp : Bool} {it b : Addr} {i : Nat} {h h' : Heap} (st : StX tp it b i h) (k : ∀ o, h.get? it = some o → h'.get? it = some o) : StX tp it b i h' := by
  cases tp with
  | true =>
    obtain ⟨o, e, r⟩ := st
    exact ⟨o, k o e, r⟩
  | false =>
    obtain ⟨o, e, r⟩ := st
    exact ⟨o, k o e, r⟩
theorem stX_ne {tp : Bool} {it b : Addr} {i : Nat} {h : Heap} {items : Array Value} (st : StX tp it b i h) (p : SeqX tp b items h) : b ≠ it := fun z => by
  obtain ⟨o, e, d⟩ := stX_obj st
  cases tp with
  | true =>
    obtain ⟨o2, e2, _, n, d2⟩ := p
    rw [z, e] at e2
    cases e2
    rw [d] at d2
    cases d2
  | false =>
    obtain ⟨o2, e2, _, n, d2⟩ := p
    rw [z, e] at e2
    cases e2
    rw [d] at d2
    cases d2
theorem drawsX {prog : Program} {w : World} {A : Around} (hh : A.handled = none) (tp : Bool) (it b : Addr) (ne : b ≠ it) (items : Array Value) : Draws prog w A it [it, b] items.size (fun i v => items[i]? = some v) (fun i h => StX tp it b i h ∧ SeqX tp b items h) := by
  cases tp with
  | true => exact Draws.tuple hh it b ne items
  | false => exact Draws.list hh it b ne items
theorem beginsX (tp : Bool) (b : Addr) (items : Array Value) : Begins (.ref b) (itObj tp b) (SeqX tp b items) := by
  cases tp with
  | true => exact begins_tuple b items
  | false => exact begins_list b items
section
variable {X : Cx} {pins : List (Addr × Obj)} {σ : L2.St} {H : Hp} {s : Shared}
theorem seqX_of {tp : Bool} {b : Addr} {ys : List V} (I : Inv X pins σ H s) (h : SqX tp X.K H b ys) : ∃ its, Vals ys its ∧ SeqX tp b its.toArray s.heap ∧ ∀ zs, SqX tp X.K H b zs → zs = ys := by
  cases tp with
  | true =>
    obtain ⟨its, rv, p, hz⟩ := I.tuple h
    exact ⟨its, rv, p, fun zs hzs => I.tuple_inj hzs h⟩
  | false =>
    obtain ⟨its, rv, p, hz⟩ := I.list h
    exact ⟨its, rv, p.isList, fun zs hzs => I.list_inj hzs h⟩
end
/-- the text's signs and what stands at b, in new pairs -/
def ItzX (tp : Bool) (K : PySem.W.Frag) (x : Str) (b : Addr) : It :=
  ⟨fun i H => ∃ (ys : List V) (c : Nat) (y : V), SqX tp K H b ys ∧ x.cps[i]? = some c ∧ ys[i]? = some y,
    fun i H v H' => ∃ T c y, v = .ref T ∧ H T = none ∧ H' = upd H T (.tup [.str ⟨#[c]⟩, y]) ∧ x.cps[i]? = some c ∧ ∀ ys, SqX tp K H b ys → ys[i]? = some y,
    fun i H => ∃ ys : List V, SqX tp K H b ys ∧ min x.cps.size ys.length = i⟩
theorem turn_zipX {P : Program} {w : World} {K : PySem.W.Frag} {elts : List Expr} {kk : Nat} {tpos : Pos} {tp : Bool} {x : Str} {b z TI TO i1 i2 : Addr} (S : ZipSep2 z TI TO i1 i2 [i1] [i2, b]) :
    Turn P w K (.Tuple elts kk tpos) (ItzX tp K x b) [z, TI, TO, i1, i2] z (fun i h => IsZip h z TI TO .none ∧ IsTupOf2 h TI (.ref i1) (.ref i2) ∧ (∃ a1 a2, IsTupOf2 h TO a1 a2) ∧ (∃ t, h.IsStrIter i1 (strIterType x) x t i) ∧ StX tp i2 b i h) where
  mem := by simp
  obj := fun i h st c hc => by
    obtain ⟨hz, hTI, ⟨a1, a2, hTO⟩, ⟨t, o1, e1, _, d1⟩, s2⟩ := st
    obtain ⟨o2, e2, d2⟩ := stX_obj s2
    rcases (show c = z ∨ c = TI ∨ c = TO ∨ c = i1 ∨ c = i2 by simpa using hc) with q | q | q | q | q
    · rw [q]
      exact ⟨_, hz, fun v q => nomatch q⟩
    · rw [q]
      exact ⟨_, hTI, fun v q => nomatch q⟩
    · rw [q]
      exact ⟨_, hTO, fun v q => nomatch q⟩
    · rw [q]
      exact ⟨o1, e1, fun v q => by rw [d1] at q; cases q⟩
    · rw [q]
      exact ⟨o2, e2, fun v q => by rw [d2] at q; cases q⟩
  keep := fun i h h' st k => by
    obtain ⟨hz, hTI, ⟨a1, a2, hTO⟩, ⟨t, o1, e1, r1⟩, s2⟩ := st
    exact ⟨k z (by simp) _ hz, k TI (by simp) _ hTI, ⟨a1, a2, k TO (by simp) _ hTO⟩, ⟨t, o1, k i1 (by simp) _ e1, r1⟩, stX_at s2 fun o e => k i2 (by simp) o e⟩
  item := by
    intro X hP hw hK hc i pins s σ H E I hf st hg
    subst hP hw hK
    obtain ⟨hz, hTI, ⟨a1, a2, hTO⟩, ⟨t, h1⟩, h2⟩ := st
    obtain ⟨ys, c, y, hq, hx, hy⟩ := hg
    obtain ⟨its, rv, p, inj⟩ := seqX_of I hq
    have D1 := Draws.text (prog := X.prog) (w := X.w) (A := X.A.in1) (I.ok.hd hc) i1 x t
    have D2 := drawsX (prog := X.prog) (w := X.w) (A := X.A.in1) (I.ok.hd hc) tp i2 b (stX_ne h2 p) its.toArray
    have G := GoesN.zip2 (elts := elts) (x1 := kk) (pos := tpos) S D1 D2
    have l := rv.length
    have hi : i < min x.cps.size its.toArray.size := by
      have b1 : i < x.cps.size := by
        obtain ⟨q, _⟩ := Array.getElem?_eq_some_iff.mp hx
        exact q
      have b2 : i < ys.length := (List.getElem?_eq_some_iff.mp hy).1
      simp
      omega
    have lt : ∀ c ∈ [z, TI, TO, i1, i2], c < s.heap.objs.size := fun c hcm => by
      obtain ⟨o2, e2, _⟩ := stX_obj h2
      obtain ⟨o1, e1, _⟩ := h1
      rcases (show c = z ∨ c = TI ∨ c = TO ∨ c = i1 ∨ c = i2 by simpa using hcm) with q | q | q | q | q
      · rw [q]
        exact Heap.lt_size hz
      · rw [q]
        exact Heap.lt_size hTI
      · rw [q]
        exact Heap.lt_size hTO
      · rw [q]
        exact Heap.lt_size e1
      · rw [q]
        exact Heap.lt_size e2
    refine G.goes i s _ _ hi ⟨hz, hTI, ⟨a1, a2, hTO⟩, h1, h2, p⟩ fun v h' tk hY st' hk htk => ?_
    obtain ⟨T, u, u2, rfl, hT, ⟨c', tc, hc', rfl⟩, hu2, oT, eT, cT, nT, dT⟩ := hY
    obtain ⟨hz', hTI', ⟨b1, b2, hTO'⟩, h1', h2', _⟩ := st'
    rw [hx] at hc'
    cases hc'
    have hu2' : its[i]? = some u2 := by simpa using hu2
    obtain ⟨w2, hw2, ru⟩ := rv.get hy
    rw [hu2'] at hw2
    cases hw2
    have new : ObjOk X.prog X.w (upd H T (.tup [.str ⟨#[c]⟩, y])) h' T (.tup [.str ⟨#[c]⟩, y]) := ⟨by show 2 ≤ sizeLine; decide, [.str ⟨#[c]⟩ tc, u2], .cons ⟨tc, rfl⟩ (.cons ru .nil), ⟨oT, eT, cT, nT, dT⟩⟩
    have I1 : Inv X pins σ (upd H T (.tup [.str ⟨#[c]⟩, y])) { s with heap := h', toks := tk } := I.turnedNew (t' := tk) (ch := [z, TI, TO, i1, i2]) (fun d o hd e => hk d o (fun q => hd (by
      rcases (show d = z ∨ d = TO ∨ d = i1 ∨ d = i2 by simpa using q) with q | q | q | q <;> simp [q])) e) hf hT new
    exact ⟨.ref T, _, I1, rfl, ⟨T, c, y, rfl, I.hok.fresh hT, rfl, hx, fun zs hzs => by rw [inj zs hzs]; exact hy⟩, ⟨hz', hTI', ⟨b1, b2, hTO'⟩, ⟨t, h1'⟩, h2'⟩, fun d hd => by
      rw [upd_ne (Nat.ne_of_lt (Nat.lt_of_lt_of_le (lt d hd) hT))]
      exact (hf d hd).1⟩
  done := by
    intro X hP hw hK hc i pins s σ H E I hf st hg
    subst hP hw hK
    obtain ⟨hz, hTI, ⟨a1, a2, hTO⟩, ⟨t, h1⟩, h2⟩ := st
    obtain ⟨ys, hq, hx⟩ := hg
    obtain ⟨its, rv, p, inj⟩ := seqX_of I hq
    have D1 := Draws.text (prog := X.prog) (w := X.w) (A := X.A.in1) (I.ok.hd hc) i1 x t
    have D2 := drawsX (prog := X.prog) (w := X.w) (A := X.A.in1) (I.ok.hd hc) tp i2 b (stX_ne h2 p) its.toArray
    have G := GoesN.zip2 (elts := elts) (x1 := kk) (pos := tpos) S D1 D2
    have l := rv.length
    have hn : min x.cps.size its.toArray.size = i := by
      simp
      omega
    refine G.stops s _ _ (by rw [hn]; exact ⟨hz, hTI, ⟨a1, a2, hTO⟩, h1, h2, p⟩) fun h' tk hk htk => ?_
    exact I.turnedL (t' := tk) (ch := [z, TI, TO, i1, i2]) (fun d o hd e => hk d o (fun q => hd (by
      rcases (show d = z ∨ d = TO ∨ d = i1 ∨ d = i2 by simpa using q) with q | q | q | q <;> simp [q])) e) hf
  self := fun A i s Q E st h => wpAny_pyIter_zip st.1 h
def iZipX (K : PySem.W.Frag) (ta : TA) : TI := fun σ H R => ta σ H fun vs H1 => ∃ (x : Str) (b : Addr) (ys : List V) (tp : Bool), vs = [.str x, .ref b] ∧ SqX tp K H1 b ys ∧ R (ItzX tp K x b) H1
theorem pi_zipX {X : Cx} {e e2 : Expr} {ta : TA} {p pos tpos : Pos} {elts : List Expr} {kk : Nat} (hg : Gl X "zip") (hm : X.mg "zip" = none) (ha : PA X [e, e2] ta)
    (hs : starEach [e, e2] X.env = (false, eval e X.env) :: starEach [e2] X.env := by rfl) (hpl : (backTo pos (starEach [e2] X.env)).any (·.1) = false := by rfl) :
    PI X (.Tuple elts kk tpos) (.Call (.Name "zip" p) [e, e2] [] pos) (iZipX X.K ta) := by
  refine ⟨fun pins s σ H R I h => ?_⟩
  refine Call_ (ld_blt I hg hm PyProof.Rows.boot_zip (PyProof.Rows.callWith_type1 (thn (ha.run pos pins s σ H _ I h) fun us s1 ⟨vs, H1, I1, r1, q1⟩ => ?_) hs hpl))
  obtain ⟨x, b, ys, tp, rfl, hq, q⟩ := q1
  cases r1 with
  | cons r rr =>
    cases rr with
    | cons r' rr =>
      cases rr
      obtain ⟨t, rfl⟩ := r
      cases r'
      obtain ⟨its, rv, pp, inj⟩ := seqX_of I1 hq
      have bl : b < s1.heap.objs.size := by
        cases tp with
        | true =>
          obtain ⟨o, e, _⟩ := pp
          exact Heap.lt_size e
        | false =>
          obtain ⟨o, e, _⟩ := pp
          exact Heap.lt_size e
      have fresh5 : ∀ c, c ∈ [s1.heap.objs.size + 4, s1.heap.objs.size + 2, s1.heap.objs.size + 3, s1.heap.objs.size, s1.heap.objs.size + 1] → FpOk X pins H1 c := fun c hcm => by
        have le : s1.heap.objs.size ≤ c := by
          rcases (show c = s1.heap.objs.size + 4 ∨ c = s1.heap.objs.size + 2 ∨ c = s1.heap.objs.size + 3 ∨ c = s1.heap.objs.size ∨ c = s1.heap.objs.size + 1 by simpa using hcm) with z | z | z | z | z <;> (rw [z]; first | exact Nat.le_refl _ | exact Nat.le_add_right _ _)
        exact I1.fpOk le (I1.hok.fresh le)
      refine zip_begins2 (begins_text x t) (beginsX tp b its.toArray) trivial pp fun h' hz hTI hTO g1 g2 hsz hk => wpAny_pyIter_zip hz ?_
      have I2 : Inv X pins σ H1 { s1 with heap := h' } := I1.kept (t' := s1.toks) hk
      refine ⟨s1.heap.objs.size + 4, [s1.heap.objs.size + 4, s1.heap.objs.size + 2, s1.heap.objs.size + 3, s1.heap.objs.size, s1.heap.objs.size + 1], _, _, H1, rfl, I2, turn_zipX (x := x) (b := b) (zip_sep2 (N := s1.heap.objs.size) (fp1 := []) (fp2 := [b]) (by simp) (by simpa using bl)), ⟨hz, hTI, ⟨_, _, hTO⟩, ⟨t, _, g1, rfl, rfl⟩, ?_⟩, fresh5, q⟩
      cases tp with
      | true => exact ⟨_, g2, rfl, rfl⟩
      | false => exact ⟨_, g2, rfl, rfl⟩
/-- a comprehension over such a zip, both of one length -/
theorem lc_zipX {tp : Bool} {K : PySem.W.Frag} {x : Str} {b : Addr} {ys : List V} {g : TG} {tt : TT} {te : TE} {vs : List Nat} {σ : L2.St} {H1 : Hp} {D : Addr} {Qd : Hp → Prop} (hl : x.cps.size = ys.length) (Pv : Nat → Hp → Prop) (h0 : Pv 0 (upd H1 D (.lst []))) (hq : ∀ i H, Pv i H → SqX tp K H b ys)
    (hs : ∀ (i : Nat) (c : Nat) (y : V) (T : Addr) (H : Hp), x.cps[i]? = some c → ys[i]? = some y → Pv i H → H T = none → g (.ref T) (wipe σ vs) (upd H T (.tup [.str ⟨#[c]⟩, y])) fun σ2 H2 => wipe σ2 vs = wipe σ vs ∧ tt σ2 H2 fun k H3 =>
      if k = true then te σ2 H3 fun v H4 => ∃ acc, H4 D = some (.lst acc) ∧ acc.length < sizeLine ∧ Pv (i + 1) (upd H4 D (.lst (acc ++ [v]))) else Pv (i + 1) H3) (hd : ∀ H, Pv ys.length H → Qd H) :
    ∃ W : Nat → Nat → Hp → Prop, (∃ m, W 0 m (upd H1 D (.lst []))) ∧ ∀ i m H, W i m H →
      ((ItzX tp K x b).stop i H ∧ Qd H) ∨ ((ItzX tp K x b).go i H ∧ ∃ Nx : Hp → Prop, (∀ H', Nx H' → ∃ m', m' < m ∧ W (i + 1) m' H') ∧ ∀ v H', (ItzX tp K x b).yld i H v H' → g v (wipe σ vs) H' fun σ2 H2 => wipe σ2 vs = wipe σ vs ∧ tt σ2 H2 fun k H3 =>
        if k = true then te σ2 H3 fun v H4 => ∃ acc, H4 D = some (.lst acc) ∧ acc.length < sizeLine ∧ Nx (upd H4 D (.lst (acc ++ [v]))) else Nx H3) := by
  refine ⟨fun i m H => m = ys.length - i ∧ i ≤ ys.length ∧ Pv i H, ⟨ys.length, rfl, Nat.zero_le _, h0⟩, ?_⟩
  rintro i m H ⟨rfl, hi, p⟩
  have q := hq i H p
  by_cases hlt : i < ys.length
  · have hc : i < x.cps.size := by omega
    refine .inr ⟨⟨ys, x.cps[i], ys[i], q, Array.getElem?_eq_getElem hc, List.getElem?_eq_getElem hlt⟩, Pv (i + 1), fun H' p' => ⟨ys.length - (i + 1), by omega, rfl, hlt, p'⟩, fun v H' y => ?_⟩
    obtain ⟨T, c, w, rfl, hT, rfl, hx, hy⟩ := y
    exact hs i c w T H hx (hy ys q) p hT
  · have e : i = ys.length := by omega
    subst e
    exact .inl ⟨⟨ys, q, by omega⟩, hd H p⟩
end OB
namespace OB
open PySem PySem.Spec PyProof.Rows L2
/-! ### told_names -/
abbrev sNames : Stmt := top 34
/-- the thing at i is no name, or stood ahead -/
def oddAt (xs : List V) (i : Nat) : Bool := match xs[i]? with
  | some (.str x) => !isNameS x || decide (V.str x ∈ xs.take i)
  | _ => true
/-- the index that is told: the first odd thing's, or how many there are if they are too few -/
def DueAt (xs : List V) (i : Nat) : Prop := i ≤ xs.length ∧ (∀ j, j < i → oddAt xs j = false) ∧ (i < xs.length → oddAt xs i = true) ∧ (i = xs.length → xs.length < 2)
def AllAny (K : PySem.W.Frag) (H : Hp) (xs : List V) : Prop := ∀ x ∈ xs, ∃ k, Any K H x k
theorem AllAny.same {K : PySem.W.Frag} {H H' : Hp} {xs : List V} (h : AllAny K H xs) (e : Same H H') : AllAny K H' xs := fun x m => by
  obtain ⟨k, a⟩ := h x m
  exact ⟨k, a.same e⟩
def spNames (K : PySem.W.Frag) (CA : Addr) : Sp := fun vs H Q E => ∃ (v : V) (k : Kd), vs = [v] ∧ Any K H v k ∧
  (fSeq v k = false → ∀ H' d, Same H H' → H d = none → H' d = some (.xd [("index", .int 0)]) → E (.ref CA) (some d) H') ∧
  (fSeq v k = true → ∃ (a : Addr) (tp : Bool) (xs : List V), v = .ref a ∧ SqX tp K H a xs ∧ AllAny K H xs ∧ xs.length < 1000 ∧
    (∀ (i : Nat) H' d, DueAt xs i → Same H H' → H d = none → H' d = some (.xd [("index", .int (i : Nat))]) → E (.ref CA) (some d) H') ∧
    ((∀ j, j < xs.length → oddAt xs j = false) → 2 ≤ xs.length → ∀ H' T, Same H H' → H T = none → H' T = some (.tup xs) → Q (.ref T) H'))
theorem SqX.same {tp : Bool} {K : PySem.W.Frag} {H H' : Hp} {a : Addr} {xs : List V} (h : SqX tp K H a xs) (e : Same H H') : SqX tp K H' a xs := by
  cases tp with
  | true =>
    rcases h with (h | ⟨o, h⟩) | h
    · exact .inl (.inl (e _ _ h))
    · exact .inl (.inr ⟨o, e _ _ h⟩)
    · exact .inr h
  | false => exact e.seq h
theorem inV_str (x : Str) : ∀ (ls : List V), (∀ y ∈ ls, ∃ s, y = V.str s) → inV (.str x) ls = decide (V.str x ∈ ls)
  | [], _ => by simp [inV]
  | y :: ls, h => by
    obtain ⟨s, rfl⟩ := h y (List.mem_cons_self ..)
    have ih := inV_str x ls fun z m => h z (List.mem_cons_of_mem _ m)
    show (eqV (.str s) (.str x) || inV (.str x) ls) = _
    rw [ih]
    have e : eqV (.str s) (.str x) = decide (s = x) := by
      trace_state
      rfl
    rw [e]
    by_cases q : s = x
    · subst q
      simp
    · rw [decide_eq_false q, Bool.false_or]
      apply decide_eq_decide.mpr
      constructor
      · exact fun m => List.mem_cons_of_mem _ m
      · intro m
        rcases List.mem_cons.mp m with z | z
        · exact absurd (V.str.inj z).symm q
        · exact z
/-- a loop over enumerate of a list that stays -/
theorem for_enL {K : PySem.W.Frag} {a : Addr} {xs : List V} {g : TG} {tb : TS} {D : Ends} {σ : L2.St} {H : Hp} (Pv : Nat → L2.St → Hp → Prop) (h0 : Pv 0 σ H) (hq : ∀ i σ H, Pv i σ H → SqL K H a xs)
    (hs : ∀ (i : Nat) (x : V) (T : Addr) (σ : L2.St) (H : Hp), xs[i]? = some x → Pv i σ H → H T = none → g (.ref T) σ (upd H T (.tup [.int (i : Nat), x])) fun σ2 H2 => tb { D with nx := Pv (i + 1), ct := Pv (i + 1), bk := D.nx } σ2 H2) (hd : ∀ σ H, Pv xs.length σ H → D.nx σ H) :
    ∃ W : Nat → Nat → L2.St → Hp → Prop, (∃ m, W 0 m σ H) ∧ ∀ i m σ H, W i m σ H →
      ((Ite K a).stop i H ∧ D.nx σ H) ∨ ((Ite K a).go i H ∧ ∃ N : L2.St → Hp → Prop, (∀ σ' H', N σ' H' → ∃ m', m' < m ∧ W (i + 1) m' σ' H') ∧ ∀ v H', (Ite K a).yld i H v H' → g v σ H' fun σ2 H2 => tb { D with nx := N, ct := N, bk := D.nx } σ2 H2) := by
  refine ⟨fun i m σ H => m = xs.length - i ∧ i ≤ xs.length ∧ Pv i σ H, ⟨xs.length, rfl, Nat.zero_le _, h0⟩, ?_⟩
  rintro i m σ H ⟨rfl, hi, p⟩
  have q := hq i σ H p
  by_cases hlt : i < xs.length
  · refine .inr ⟨⟨xs, xs[i], q, List.getElem?_eq_getElem hlt⟩, Pv (i + 1), fun σ' H' p' => ⟨xs.length - (i + 1), by omega, rfl, hlt, p'⟩, fun v H' y => ?_⟩
    obtain ⟨T, x, rfl, hT, rfl, hx⟩ := y
    exact hs i x T σ H (hx xs q) p hT
  · have e : i = xs.length := by omega
    subst e
    exact .inl ⟨⟨xs, q, Nat.le_refl _⟩, hd σ H p⟩
end OB
namespace OB
open PySem PySem.Spec PyProof.Rows L2
/-- what an own error class with a field says -/
structure ErrK (P : Program) (K : PySem.W.Frag) (mg : Str → Option Value) (x : Str) (C fI : Addr) (f : Str) : Prop where
  T : OE.Cl1 P K C fI f
  B : OE.Bds f
  g : mg x = some (.ref C)
  k : PySem.W.keepIn K (.ref C) = true
  ex : PySem.W.subIn K (.ref C) (.type "BaseException") = some true
  ty : PySem.W.typeIn K (.ref C) = some (.type "type")
structure TxtL (mg : Str → Option Value) : Prop where
  en : mg "enumerate" = none
  F : ∃ t, mg "FEWEST" = some (.int 2 t)
section
variable {P : Program} {w : World} {K : PySem.W.Frag} {mg : Str → Option Value} {base : Heap}
theorem scNames : FnScope ["addresses", "names", "index", "thing"] ["addresses"] (defScope sNames) := ⟨rfl, rfl, rfl, by decide +kernel, rfl, by decide +kernel, by decide +kernel⟩
theorem ok_names {f fL fN CA fA : Addr} {fd fdL fdN : FuncData} (F : Fun K "told_names" "told_names" sNames f fd) (FL : Fun K "is_list" "is_list" sIsList fL fdL) (gL : mg "is_list" = some (.ref fL)) (FN : Fun K "is_name" "is_name" sIsName fN fdN) (gN : mg "is_name" = some (.ref fN))
    (T : TxtC mg) (TN : TxtN mg) (TL : TxtL mg) (EA : ErrK P K mg "BadAddresses" CA fA "index") (htop : (P.main.scope.names.lookup ("super" : Str)).isSome = false) : FnOk P w K mg base (L2.CX P w) 3 f fd ["addresses"] (spNames K CA) := by
  have GL : FnOk P w K mg base CX0 1 fL fdL ["thing"] (spAsk K fSeq) := ok_isList FL T
  have GN : FnOk P w K mg base CX0 1 fN fdN ["thing"] (spAsk K fName) := ok_isName FN T TN
  have bL : Binds K fdL ["thing"] [] := FL.binds fun _ _ _ _ _ _ us hl => match us, hl with | [_], _ => rfl
  have bN : Binds K fdN ["thing"] [] := FN.binds fun _ _ _ _ _ _ us hl => match us, hl with | [_], _ => rfl
  obtain ⟨tF, mF⟩ := TL.F
  refine F.okX scNames (fun vs H Q E h => ?_) (fun cdv A outer s H vs Q E hr h => ?_)
  · obtain ⟨v, k, rfl, _⟩ := h
    rfl
  · obtain ⟨v, k, rfl, a, hbad, hok⟩ := h
    have nd := scNames.nd
    have hr1 : Room 1 (A.deeper (envOfC "told_names" (defScope sNames) s.heap.objs.size f cdv)) := hr.mono (by decide)
    refine ⟨_, pss_cons (ps_if (pt_not (pt_val (pe_call GL hr1 (by rfl) gL FL.kp bL .nil pass0 (pa_cons (pv 0) pa_nil))))
        (pss_one (ps_raise rfl (takes_of rfl rfl rfl rfl) (pmk_err EA.T EA.B hr htop (by rfl) EA.g EA.k EA.ex EA.ty (by exact (pa_cons pe_int pa_nil)) rfl))) pss_nil)
      (pss_cons (ps_set (i := 1) nd rfl (Or.inl rfl) (pe_lst pa_nil))
      (pss_cons (ps_for (passes_of rfl) rfl (pi_enT (by rfl) TL.en (pa_cons (pv 0) pa_nil)) (pg_tup rfl (pgs_cons (pg_name (i := 2) nd rfl (Or.inl rfl)) (pgs_cons (pg_name (i := 3) nd rfl (Or.inl rfl)) pgs_nil)))
        (pss_cons (ps_if (PW.pt (pw_or (pt_not (pt_val (pe_call GN hr1 (by rfl) gN FN.kp bN .nil pass0 (pa_cons (pv 3) pa_nil)))) (pw_or1 (pt_cmpR op_in_seq (pv 3) (pv 1) (by rfl)))))
          (pss_one (ps_raise rfl (takes_of rfl rfl rfl rfl) (pmk_err EA.T EA.B hr htop (by rfl) EA.g EA.k EA.ex EA.ty (by exact (pa_cons (pv 2) pa_nil)) rfl))) pss_nil)
        (pss_one (ps_expr (pe_bm PySem.F.plainAttrs_list PySem.F.slot_list_append PySem.F.type_list_append mt_append (pv 1) (pa_cons (pv 3) pa_nil))))))
      (pss_cons (ps_if (pt_cmpR op_lt (pe_callB call_len_seq (by rfl) T.len PySem.boot_len (pa_cons (pv 1) pa_nil)) (pe_glob (v := .int 2) (by rfl) mF ⟨_, rfl⟩) (nomark _))
        (pss_one (ps_raise rfl (takes_of rfl rfl rfl rfl) (pmk_err EA.T EA.B hr htop (by rfl) EA.g EA.k EA.ex EA.ty (by exact (pa_cons (pe_callB call_len_seq (by rfl) T.len PySem.boot_len (pa_cons (pv 1) pa_nil)) pa_nil)) rfl))) pss_nil)
      (pss_one (ps_ret (pe_callTy call_tuple_of (by rfl) T.tuple (by decide +kernel) (pa_cons (pv 1) pa_nil))))))), ?_⟩
    refine ⟨_, rfl, v, k, rfl, a, fun H1 e1 => ⟨_, rfl, ?_⟩⟩
    cases hf : fSeq v k with
    | false =>
      exact iteT ⟨_, rfl, fun d nd => hbad hf _ d (e1.trans (Same.new nd)) (e1.free nd) upd_same⟩
    | true =>
      obtain ⟨p, tp, xs, rfl, hx, hA, hlen, hE, hQ⟩ := hok hf
      refine iteF ⟨Nat.zero_le _, fun D nD => ?_⟩
      have nD0 : H D = none := e1.free nD
      have e2 : Same H (upd H1 D (.lst [])) := e1.trans (Same.new nD)
      have hx2 : SqX tp K (upd H1 D (.lst [])) p xs := hx.same e2
      have g2 : (upd H1 D (.lst [])) D = some (.lst []) := upd_same
      generalize upd H1 D (.lst []) = H2 at e2 hx2 g2
      have stands : ∀ (i : Nat) (σ : L2.St) (G : Hp), ((∃ o2 o3 : Option V, σ = [some (.ref p), some (.ref D), o2, o3]) ∧ Same H G ∧ G D = some (.lst (xs.take i)) ∧ ∀ j, j < i → oddAt xs j = false) → SqX tp K G p xs := fun i σ G q => hx.same q.2.1
      have begin0 : Same H H2 ∧ H2 D = some (.lst (xs.take 0)) ∧ ∀ j, j < 0 → oddAt xs j = false := ⟨e2, g2, fun j hj => absurd hj (Nat.not_lt_zero j)⟩
      refine ⟨_, rfl, p, xs, rfl, ?_⟩
      cases tp with
      | true =>
        refine .inr ⟨hx2, for_enT (xs := xs) (fun i σ G => (∃ o2 o3 : Option V, σ = [some (.ref p), some (.ref D), o2, o3]) ∧ Same H G ∧ G D = some (.lst (xs.take i)) ∧ ∀ j, j < i → oddAt xs j = false) ⟨⟨_, _, rfl⟩, begin0⟩ stands ?_ ?_⟩
        · rintro i x TT σ G hi ⟨⟨o2, o3, rfl⟩, eG, gD, hj⟩ hT
          have hlt : i < xs.length := (List.getElem?_eq_some_iff.mp hi).1
          refine ⟨TT, _, rfl, SqT.of upd_same, rfl, .int (i : Nat), _, rfl, x, _, rfl, rfl, ?_⟩
          have e3 : Same G (upd G TT (.tup [.int (i : Nat), x])) := Same.new hT
          obtain ⟨kx, ax⟩ := hA x (List.mem_of_getElem? hi)
          refine ⟨_, rfl, x, kx, rfl, (ax.same eG).same e3, fun G2 e4 => ⟨_, rfl, ?_⟩⟩
          have e5 : Same H G2 := (eG.trans e3).trans e4
          have gD2 : G2 D = some (.lst (xs.take i)) := e4 _ _ (e3 _ _ gD)
          have bad : oddAt xs i = true → ∀ (d : Addr), G2 d = none → E (.ref CA) (some d) (upd G2 d (.xd [("index", .int (i : Nat))])) := fun z d nd => hE i _ d ⟨Nat.le_of_lt hlt, hj, fun _ => z, fun q => absurd q (Nat.ne_of_lt hlt)⟩ (e5.trans (Same.new nd)) (e5.free nd) upd_same
          cases hn : fName x kx with
          | false =>
            refine iteT ⟨_, rfl, _, rfl, fun d nd => bad ?_ d nd⟩
            unfold oddAt
            rw [hi]
            cases x with
            | str y =>
              have hn' : isNameS y = false := hn
              show (!isNameS y || _) = true
              rw [hn'] <;> rfl
            | _ => rfl
          | true =>
            obtain ⟨y, rfl⟩ : ∃ y, x = V.str y := by
              cases x with
              | str y => exact ⟨y, rfl⟩
              | _ => cases hn
            have hn' : isNameS y = true := hn
            have allS : ∀ z ∈ xs.take i, ∃ t, z = V.str t := fun z mz => by
              obtain ⟨j, hj1, hj2⟩ := List.getElem_of_mem mz
              have hj3 : j < i := by
                have q := hj1
                rw [List.length_take] at q
                omega
              have hj4 : xs[j]? = some z := by
                rw [← hj2, List.getElem_take]
                exact List.getElem?_eq_getElem _
              have o := hj j hj3
              unfold oddAt at o
              rw [hj4] at o
              cases z with
              | str t => exact ⟨t, rfl⟩
              | _ => cases o
            have odd : oddAt xs i = decide (V.str y ∈ xs.take i) := by
              unfold oddAt
              rw [hi]
              show (!isNameS y || _) = _
              rw [hn'] <;> rfl
            refine iteF ⟨_, rfl, _, rfl, D, _, rfl, .inl (SqL.of gD2), rfl, ?_, _, rfl, ?_⟩
            · exact List.all_eq_true.mpr fun z mz => by
                obtain ⟨t, rfl⟩ := allS z mz
                rfl
            rw [inV_str y _ allS, ← odd]
            cases ho : oddAt xs i with
            | true => exact iteT ⟨_, rfl, _, rfl, fun d nd => bad ho d nd⟩
            | false =>
              refine iteF ⟨_, rfl, .inl ⟨rfl, _, SqL.of gD2⟩, _, rfl, D, _, _, rfl, rfl, gD2, ?_, ?_⟩
              · rw [List.length_take, sizeLine_eq]
                omega
              · refine ⟨⟨_, _, rfl⟩, fun b o eb => ?_, ?_, fun j hj' => ?_⟩
                · rw [upd_ne (ne_of_none eb nD0)]
                  exact e5 b o eb
                · rw [upd_same, List.take_add_one, hi] <;> rfl
                · by_cases z : j = i
                  · rw [z]
                    exact ho
                  · exact hj j (by omega)
        · rintro σ G ⟨⟨o2, o3, rfl⟩, eG, gD, hj⟩
          rw [List.take_length] at gD
          refine ⟨_, rfl, D, xs, rfl, .inl (SqL.of gD), (xs.length : Int), 2, rfl, rfl, _, rfl, ?_⟩
          refine ite2 (fun h => ?_) (fun h => ?_)
          · have l2 : xs.length < 2 := by
              have z := of_decide_eq_true h
              omega
            refine ⟨_, rfl, D, xs, rfl, .inl (SqL.of gD), _, rfl, fun d nd => ?_⟩
            exact hE xs.length _ d ⟨Nat.le_refl _, hj, fun q => absurd q (Nat.lt_irrefl _), fun _ => l2⟩ (eG.trans (Same.new nd)) (eG.free nd) upd_same
          · have l2 : 2 ≤ xs.length := by
              have z : ¬ ((xs.length : Int) < 2) := fun q => h (decide_eq_true q)
              omega
            refine ⟨_, rfl, D, xs, rfl, .inl ⟨SqL.of gD, fun TT nT => ?_⟩⟩
            exact hQ hj l2 _ TT (eG.trans (Same.new nT)) (eG.free nT) upd_same
      | false =>
        refine .inl ⟨hx2, for_enL (xs := xs) (fun i σ G => (∃ o2 o3 : Option V, σ = [some (.ref p), some (.ref D), o2, o3]) ∧ Same H G ∧ G D = some (.lst (xs.take i)) ∧ ∀ j, j < i → oddAt xs j = false) ⟨⟨_, _, rfl⟩, begin0⟩ stands ?_ ?_⟩
        · rintro i x TT σ G hi ⟨⟨o2, o3, rfl⟩, eG, gD, hj⟩ hT
          have hlt : i < xs.length := (List.getElem?_eq_some_iff.mp hi).1
          refine ⟨TT, _, rfl, SqT.of upd_same, rfl, .int (i : Nat), _, rfl, x, _, rfl, rfl, ?_⟩
          have e3 : Same G (upd G TT (.tup [.int (i : Nat), x])) := Same.new hT
          obtain ⟨kx, ax⟩ := hA x (List.mem_of_getElem? hi)
          refine ⟨_, rfl, x, kx, rfl, (ax.same eG).same e3, fun G2 e4 => ⟨_, rfl, ?_⟩⟩
          have e5 : Same H G2 := (eG.trans e3).trans e4
          have gD2 : G2 D = some (.lst (xs.take i)) := e4 _ _ (e3 _ _ gD)
          have bad : oddAt xs i = true → ∀ (d : Addr), G2 d = none → E (.ref CA) (some d) (upd G2 d (.xd [("index", .int (i : Nat))])) := fun z d nd => hE i _ d ⟨Nat.le_of_lt hlt, hj, fun _ => z, fun q => absurd q (Nat.ne_of_lt hlt)⟩ (e5.trans (Same.new nd)) (e5.free nd) upd_same
          cases hn : fName x kx with
          | false =>
            refine iteT ⟨_, rfl, _, rfl, fun d nd => bad ?_ d nd⟩
            unfold oddAt
            rw [hi]
            cases x with
            | str y =>
              have hn' : isNameS y = false := hn
              show (!isNameS y || _) = true
              rw [hn'] <;> rfl
            | _ => rfl
          | true =>
            obtain ⟨y, rfl⟩ : ∃ y, x = V.str y := by
              cases x with
              | str y => exact ⟨y, rfl⟩
              | _ => cases hn
            have hn' : isNameS y = true := hn
            have allS : ∀ z ∈ xs.take i, ∃ t, z = V.str t := fun z mz => by
              obtain ⟨j, hj1, hj2⟩ := List.getElem_of_mem mz
              have hj3 : j < i := by
                have q := hj1
                rw [List.length_take] at q
                omega
              have hj4 : xs[j]? = some z := by
                rw [← hj2, List.getElem_take]
                exact List.getElem?_eq_getElem _
              have o := hj j hj3
              unfold oddAt at o
              rw [hj4] at o
              cases z with
              | str t => exact ⟨t, rfl⟩
              | _ => cases o
            have odd : oddAt xs i = decide (V.str y ∈ xs.take i) := by
              unfold oddAt
              rw [hi]
              show (!isNameS y || _) = _
              rw [hn'] <;> rfl
            refine iteF ⟨_, rfl, _, rfl, D, _, rfl, .inl (SqL.of gD2), rfl, ?_, _, rfl, ?_⟩
            · exact List.all_eq_true.mpr fun z mz => by
                obtain ⟨t, rfl⟩ := allS z mz
                rfl
            rw [inV_str y _ allS, ← odd]
            cases ho : oddAt xs i with
            | true => exact iteT ⟨_, rfl, _, rfl, fun d nd => bad ho d nd⟩
            | false =>
              refine iteF ⟨_, rfl, .inl ⟨rfl, _, SqL.of gD2⟩, _, rfl, D, _, _, rfl, rfl, gD2, ?_, ?_⟩
              · rw [List.length_take, sizeLine_eq]
                omega
              · refine ⟨⟨_, _, rfl⟩, fun b o eb => ?_, ?_, fun j hj' => ?_⟩
                · rw [upd_ne (ne_of_none eb nD0)]
                  exact e5 b o eb
                · rw [upd_same, List.take_add_one, hi] <;> rfl
                · by_cases z : j = i
                  · rw [z]
                    exact ho
                  · exact hj j (by omega)
        · rintro σ G ⟨⟨o2, o3, rfl⟩, eG, gD, hj⟩
          rw [List.take_length] at gD
          refine ⟨_, rfl, D, xs, rfl, .inl (SqL.of gD), (xs.length : Int), 2, rfl, rfl, _, rfl, ?_⟩
          refine ite2 (fun h => ?_) (fun h => ?_)
          · have l2 : xs.length < 2 := by
              have z := of_decide_eq_true h
              omega
            refine ⟨_, rfl, D, xs, rfl, .inl (SqL.of gD), _, rfl, fun d nd => ?_⟩
            exact hE xs.length _ d ⟨Nat.le_refl _, hj, fun q => absurd q (Nat.lt_irrefl _), fun _ => l2⟩ (eG.trans (Same.new nd)) (eG.free nd) upd_same
          · have l2 : 2 ≤ xs.length := by
              have z : ¬ ((xs.length : Int) < 2) := fun q => h (decide_eq_true q)
              omega
            refine ⟨_, rfl, D, xs, rfl, .inl ⟨SqL.of gD, fun TT nT => ?_⟩⟩
            exact hQ hj l2 _ TT (eG.trans (Same.new nT)) (eG.free nT) upd_same
end
end OB
namespace OB
open PySem PySem.Spec PyProof.Rows L2
/-! ### a land is made -/
abbrev sLand : Stmt := top 35
abbrev sLandInit : Stmt := inClass sLand 0
abbrev sLandEq : Stmt := inClass sLand 1
abbrev sLandAdr : Stmt := inClass sLand 2
abbrev sLandMost : Stmt := inClass sLand 3
structure LandC (K : PySem.W.Frag) (C : Addr) : Prop where
  cl : Cls K C
  nN : NoAttr K C "_names"
  nM : NoAttr K C "_most"
/-- the land at o: its names in the tuple at T, its most -/
def LandAt (H : Hp) (C o : Addr) (xs : List V) (m : Int) : Prop := ∃ dx T, H o = some (.ins C dx [("_names", .ref T), ("_most", .int m)]) ∧ H T = some (.tup xs)
theorem LandAt.same {H H' : Hp} {C o : Addr} {xs : List V} {m : Int} (h : LandAt H C o xs m) (e : Same H H') : LandAt H' C o xs m := by
  obtain ⟨dx, T, h1, h2⟩ := h
  exact ⟨dx, T, e _ _ h1, e _ _ h2⟩
/-- all but the object at o stands -/
def spLandInit (K : PySem.W.Frag) (C CA CM : Addr) : Sp := fun vs H Q E => ∃ (o dx : Addr) (v m : V) (k km : Kd), vs = [.ref o, v, m] ∧ H o = some (.ins C dx []) ∧ Any K H v k ∧ Any K H m km ∧
  (fSeq v k = false → ∀ H' d, Same H H' → H d = none → H' d = some (.xd [("index", .int 0)]) → E (.ref CA) (some d) H') ∧
  (fSeq v k = true → ∃ (a : Addr) (tp : Bool) (xs : List V), v = .ref a ∧ SqX tp K H a xs ∧ AllAny K H xs ∧ xs.length < 1000 ∧
    (∀ (i : Nat) H' d, DueAt xs i → Same H H' → H d = none → H' d = some (.xd [("index", .int (i : Nat))]) → E (.ref CA) (some d) H') ∧
    ((∀ j, j < xs.length → oddAt xs j = false) → 2 ≤ xs.length →
      (numFrom 1 m km = false → ∀ H' d, ButS o H H' → H d = none → H' d = some (.xd [("most", m)]) → E (.ref CM) (some d) H') ∧
      (∀ i, m = .int i → 1 ≤ i → ∀ H', ButS o H H' → LandAt H' C o xs i → Q .non H')))
theorem Any.put {K : PySem.W.Frag} {H H' : Hp} {o C dx : Addr} {fs gs : List (Str × V)} {v : V} {k : Kd} (h : Any K H v k) (h1 : H o = some (.ins C dx fs)) (h2 : H' o = some (.ins C dx gs)) (b : ButS o H H') : Any K H' v k := by
  cases h with
  | non => exact .non
  | bl b => exact .bl b
  | int i => exact .int i
  | str h => exact .str h
  | @lst a xs q => exact .lst (b _ _ (fun z => by rw [z, h1] at q; cases q) q)
  | @tup a xs q => exact .tup (b _ _ (fun z => by rw [z, h1] at q; cases q) q)
  | @dct a kvs q => exact .dct (b _ _ (fun z => by rw [z, h1] at q; cases q) q)
  | fn q c => exact .fn q c
  | @ins a C2 dx2 fs2 q oc =>
    by_cases z : a = o
    · rw [z, h1] at q
      cases q
      rw [z]
      exact .ins h2 oc
    · exact .ins (b _ _ z q) oc
theorem ButS.free {o d : Addr} {H H' : Hp} {u : HO} (b : ButS o H H') (ho : H' o = some u) (hd : H' d = none) : H d = none := by
  cases q : H d with
  | none => rfl
  | some x =>
    by_cases z : d = o
    · rw [z, ho] at hd
      cases hd
    · rw [b _ _ z q] at hd
      cases hd
section
variable {P : Program} {w : World} {K : PySem.W.Frag} {mg : Str → Option Value} {base : Heap}
theorem scLandInit : FnScope ["self", "addresses", "most"] ["self", "addresses", "most"] (defScope sLandInit) := ⟨rfl, rfl, rfl, by decide +kernel, rfl, by decide +kernel, by decide +kernel⟩
theorem ok_landInit {f fT fO C CA CM fM : Addr} {fd fdT fdO : FuncData} (F : Fun K "__init__" "Land.__init__" sLandInit f fd) (GT : FnOk P w K mg base (L2.CX P w) 3 fT fdT ["addresses"] (spNames K CA)) (gT : mg "told_names" = some (.ref fT)) (kT : PySem.W.keepIn K (.ref fT) = true) (bT : Binds K fdT ["addresses"] [])
    (GO : FnOk P w K mg base CX0 2 fO fdO ["thing"] (spAsk K (numFrom 1))) (gO : mg "is_from_one" = some (.ref fO)) (kO : PySem.W.keepIn K (.ref fO) = true) (bO : Binds K fdO ["thing"] []) (LC : LandC K C) (EM : ErrK P K mg "BadMost" CM fM "most") (htop : (P.main.scope.names.lookup ("super" : Str)).isSome = false) :
    FnOk P w K mg base (L2.CX P w) 4 f fd ["self", "addresses", "most"] (spLandInit K C CA CM) := by
  refine F.okX scLandInit (fun vs H Q E h => ?_) (fun cdv A outer s H vs Q E hr h => ?_)
  · obtain ⟨o, dx, v, m, k, km, rfl, _⟩ := h
    rfl
  · obtain ⟨o, dx, v, m, k, km, rfl, ho, a, am, hbad, hok⟩ := h
    have nd := scLandInit.nd
    have hr2 : Room 2 (A.deeper (envOfC "Land.__init__" (defScope sLandInit) s.heap.objs.size f cdv)) := hr.mono (by decide)
    refine ⟨_, pss_cons (ps_fld (pv 0) (pe_callS GT hr (by rfl) gT kT bT (fun σ => passAt (takes_of rfl rfl rfl rfl) σ) (pa_cons (pv 1) pa_nil)) rfl)
      (pss_cons (ps_if (pt_not (pt_val (pe_call GO hr2 (by rfl) gO kO bO .nil pass0 (pa_cons (pv 2) pa_nil))))
        (pss_one (ps_raise rfl (takes_of rfl rfl rfl rfl) (pmk_err EM.T EM.B hr htop (by rfl) EM.g EM.k EM.ex EM.ty (by exact (pa_cons (pv 2) pa_nil)) rfl))) pss_nil)
      (pss_one (ps_fld (pv 0) (pv 2) rfl))), ?_⟩
    refine ⟨_, rfl, v, k, rfl, a, fun hf H' d e nd' hd => hbad hf H' d e nd' hd, fun hf => ?_⟩
    obtain ⟨p, tp, xs, rfl, hx, hA, hlen, hE, hQ⟩ := hok hf
    refine ⟨p, tp, xs, rfl, hx, hA, hlen, fun i H' d hi e nd' hd => hE i H' d hi e nd' hd, fun hj l2 H1 T e1 nT gT1 => ?_⟩
    obtain ⟨q1, q2⟩ := hQ hj l2
    have ho1 := e1 _ _ ho
    refine ⟨_, rfl, o, C, dx, _, rfl, ho1, LC.cl, LC.nN, by decide, ?_⟩
    have oT : T ≠ o := fun z => by
      rw [z, ho] at nT
      cases nT
    have B2 : ButS o H (upd H1 o (.ins C dx [("_names", .ref T)])) := (ButS.same e1).trans ButS.put
    have T3 : (upd H1 o (.ins C dx [("_names", .ref T)])) T = some (.tup xs) := by
      rw [upd_ne oT]
      exact gT1
    have o3 : (upd H1 o (.ins C dx [("_names", .ref T)])) o = some (.ins C dx [("_names", .ref T)]) := upd_same
    show tSeq _ _ _ _ (upd H1 o (.ins C dx [("_names", .ref T)]))
    generalize upd H1 o (.ins C dx [("_names", .ref T)]) = H3 at B2 T3 o3 ⊢
    refine ⟨_, rfl, m, km, rfl, am.put ho o3 B2, fun H4 e4 => ⟨_, rfl, ?_⟩⟩
    have B4 : ButS o H H4 := B2.trans (ButS.same e4)
    have o4 := e4 _ _ o3
    cases hn : numFrom 1 m km with
    | false => exact iteT ⟨_, rfl, _, rfl, fun d nd' => q1 hn _ d (B4.trans (ButS.same (Same.new nd'))) (B4.free o4 nd') upd_same⟩
    | true =>
      obtain ⟨i, rfl, hi⟩ : ∃ i, m = V.int i ∧ 1 ≤ i := by
        cases m with
        | int i => exact ⟨i, rfl, of_decide_eq_true hn⟩
        | _ => cases hn
      refine iteF ⟨_, rfl, _, rfl, o, C, dx, _, rfl, o4, LC.cl, LC.nM, by show 1 < 1000; decide, ?_⟩
      exact q2 i rfl hi _ (B4.trans ButS.put) ⟨dx, T, upd_same, by rw [upd_ne oT]; exact e4 _ _ T3⟩
end
end OB
namespace OB
open PySem PySem.Spec PyProof.Rows L2
/-! ### what a land tells -/
def spLandAdr (C : Addr) : Sp := fun vs H Q _ => ∃ (o : Addr) (xs : List V) (m : Int), vs = [.ref o] ∧ LandAt H C o xs m ∧ ∀ H' l, Same H H' → H l = none → H' l = some (.lst xs) → Q (.ref l) H'
def spLandMost (C : Addr) : Sp := fun vs H Q _ => ∃ (o : Addr) (xs : List V) (m : Int), vs = [.ref o] ∧ LandAt H C o xs m ∧ Q (.int m) H
section
variable {P : Program} {w : World} {K : PySem.W.Frag} {mg : Str → Option Value} {base : Heap}
theorem scLandAdr : FnScope ["self"] ["self"] (defScope sLandAdr) := ⟨rfl, rfl, rfl, by decide +kernel, rfl, by decide +kernel, by decide +kernel⟩
theorem scLandMost : FnScope ["self"] ["self"] (defScope sLandMost) := ⟨rfl, rfl, rfl, by decide +kernel, rfl, by decide +kernel, by decide +kernel⟩
theorem ok_landAdr {f C : Addr} {fd : FuncData} (F : Fun K "addresses" "Land.addresses" sLandAdr f fd) (LC : LandC K C) (T : TxtC mg) : FnOk P w K mg base CX0 1 f fd ["self"] (spLandAdr C) := by
  refine F.ok scLandAdr (fun vs H Q E h => ?_) (fun cdv A outer s H vs Q E hr h => ?_)
  · obtain ⟨o, xs, m, rfl, _⟩ := h
    rfl
  · obtain ⟨o, xs, m, rfl, ⟨dx, TT, h1, h2⟩, q⟩ := h
    refine ⟨_, pss_one (ps_ret (pe_callTy call_list_of (by rfl) T.list (by decide +kernel) (pa_cons (pe_fld (pv 0) rfl) pa_nil))), ?_⟩
    refine ⟨_, rfl, o, C, dx, _, _, rfl, h1, LC.cl, LC.nN, by rfl, TT, xs, rfl, .inr (SqT.of h2), fun l nl => q _ l (Same.new nl) nl upd_same⟩
theorem ok_landMost {f C : Addr} {fd : FuncData} (F : Fun K "most" "Land.most" sLandMost f fd) (LC : LandC K C) : FnOk P w K mg base CX0 1 f fd ["self"] (spLandMost C) := by
  refine F.ok scLandMost (fun vs H Q E h => ?_) (fun cdv A outer s H vs Q E hr h => ?_)
  · obtain ⟨o, xs, m, rfl, _⟩ := h
    rfl
  · obtain ⟨o, xs, m, rfl, ⟨dx, TT, h1, h2⟩, q⟩ := h
    exact ⟨_, pss_one (ps_ret (pe_fld (pv 0) rfl)), _, rfl, o, C, dx, _, _, rfl, h1, LC.cl, LC.nM, by rfl, q⟩
end
end OB
namespace OB
open PySem PySem.Spec PyProof.Rows L2
/-! ### == by the text's own __eq__, whatever stands on the right -/
def rEqO (K : PySem.W.Frag) (C : Addr) (sp : Sp) : R2 := fun x y H Q => ∃ (o dx : Addr) (fs : List (Str × V)) (t : Value), x = .ref o ∧ H o = some (.ins C dx fs) ∧ TyA K H y t ∧ PySem.W.notFirst K C t = true ∧ sp [.ref o, y] H (fun v H' => ∃ b : Bool, v = .bl b ∧ Q (.bl b) H') E0
theorem op_eqO {X : Cx} {n : Nat} {C f : Addr} {fd : FuncData} {ps : List Str} {sp : Sp} (F : FnOk X.prog X.w X.K X.mg X.base CX0 n f fd ps sp) (hr : Room n X.A) (hs : PySem.W.findIn X.K (.ref C) "__eq__" = some (some (.ref f))) (hf : PySem.W.isFn X.K (.ref f) = true) (hb : Binds X.K fd ps []) :
    OpR X (compareOp .Eq) (rEqO X.K C sp) := by
  intro pins s σ H x y v u Q I rx ry h
  obtain ⟨o, dx, fs, t, rfl, ho, ty, nf, hsp⟩ := h
  cases rx
  show wpAny (model X.prog X.w) X.A (richCompare .Eq (.ref o) u) (EP X pins σ Q) X.xe s
  obtain ⟨mA, J, _⟩ := ins_get I.hok ho
  obtain ⟨od, J, _⟩ := J.look
  obtain ⟨m, hF⟩ := I.fr
  obtain ⟨P, Z, p, _⟩ := kitA_of I ry ty
  refine PySem.W.cmp_K (op := .Eq) (tb := t) hr.units0 hF I.ok.mod.kin J (Z.ty _ _ I.kIn p) nf hs hf ?_
  have hv : Vals [V.ref o, y] [Value.ref o, u] := .cons rfl (.cons ry .nil)
  refine wpAny_mono (run_fn (dvs := []) (ds := []) F hr hb .nil pass0 I hv hsp) (fun w s' q => ?_) fun _ _ e => e
  obtain ⟨z, H', I', rz, b, rfl, q'⟩ := q
  cases rz
  exact ⟨.bl b, H', I', rfl, q'⟩
end OB
namespace OB
open PySem PySem.Spec PyProof.Rows L2
open Sem (wp)
/-! ### != where the class has an own __eq__ and no __ne__ -/
def rNeO (K : PySem.W.Frag) (C : Addr) (sp : Sp) : R2 := fun x y H Q => ∃ (o dx : Addr) (fs : List (Str × V)) (t : Value), x = .ref o ∧ H o = some (.ins C dx fs) ∧ TyA K H y t ∧ PySem.W.notFirst K C t = true ∧ sp [.ref o, y] H (fun v H' => ∃ b : Bool, v = .bl b ∧ Q (.bl (!b)) H') E0
section
variable {X : Cx} {n : Nat} {C f : Addr} {fd : FuncData} {ps : List Str} {sp : Sp}
/-- the text's own __eq__, called from within a built-in -/
theorem eq_in1 {pins : List (Addr × Obj)} {σ : L2.St} {H : Hp} {s : Shared} {o : Addr} {y : V} {u : Value} {Q : VK} (F : FnOk X.prog X.w X.K X.mg X.base CX0 n f fd ps sp) (hr : Room n X.A.in1) (hb : Binds X.K fd ps []) (I : Inv X pins σ H s) (ry : RelV y u) (hsp : sp [.ref o, y] H Q E0) {E : Value → Shared → Prop} :
    wpAny (model X.prog X.w) X.A.in1 (call (.ref f) [.ref o, u]) (EP X pins σ Q) E s := by
  have e := I.env0
  have e0 : Env0 X.prog X.w X.K X.mg X.base X.A.in1 X.stack s H := ⟨e.frames, e.mod, e.bs, e.bsz, e.funs, e.frf, e.hok, e.bare⟩
  have hl := F.len _ _ _ _ hsp
  have b := hb s [.ref o, u] I.kIn (by simpa using hl)
  rw [List.append_nil] at b
  refine wpAny_call (codeAny_mono (F.run X.A.in1 X.stack s H ⟨[.ref o, u], []⟩ [.ref o, u] [.ref o, y] Q E0 hr e0 b (.cons rfl (.cons ry .nil)) hsp) fun r s' hq => ?_)
  cases r with
  | error e => exact (show False from hq).elim
  | ok fl =>
    cases fl with
    | ret w => exact I.after hq
    | next => exact False.elim hq
    | brk => exact False.elim hq
    | cont => exact False.elim hq
theorem op_neO (G : FnOk X.prog X.w X.K X.mg X.base CX0 n f fd ps sp) (hr : Room (n + 1) X.A) (hs : PySem.W.findIn X.K (.ref C) "__eq__" = some (some (.ref f))) (hf : PySem.W.isFn X.K (.ref f) = true) (hb : Binds X.K fd ps [])
    (hne : PySem.W.findIn X.K (.ref C) "__ne__" = some (some (.builtin "object.__ne__"))) (hob : PySem.W.subIn X.K (.ref C) (.type "object") = some true) : OpR X (compareOp .NotEq) (rNeO X.K C sp) := by
  intro pins s σ H x y v u Q I rx ry h
  obtain ⟨o, dx, fs, t, rfl, ho, ty, nf, hsp⟩ := h
  cases rx
  show wpAny (model X.prog X.w) X.A (richCompare .NotEq (.ref o) u) (EP X pins σ Q) X.xe s
  obtain ⟨mA, J, _⟩ := ins_get I.hok ho
  obtain ⟨od, J, _⟩ := J.look
  obtain ⟨P, Z, p, _⟩ := kitA_of I ry ty
  have hu1 : X.A.in1.units < cLine := hr.in1.units0
  have called : wpAny (model X.prog X.w) X.A (call (.builtin "object.__ne__") [.ref o, u]) (fun w s' => ∃ c : Bool, w = .bool c ∧ EP X pins σ Q w s') X.xe s := by
    refine wpAny_call (codeAny_call_builtin PySem.F.cmp_object.ne.plain PySem.F.cmpEntry_ne ?_)
    simp only [checkBuiltinCall, PySem.F.cmpKind_ne, PySem.F.cmpSplit_ne]
    refine wpAny_bind ?_
    unfold isInstance
    refine wpAny_bind (J.type.here ?_)
    refine (PySem.W.looks_subIn I.kIn hob).here ?_
    have chk := PySem.F.cmpArgs_ne (.ref o) u
    have entry : wpAny (model X.prog X.w) X.A.in1 (Builtin.«object.__ne__» ⟨[.ref o, u], []⟩) (fun fin s' => ∃ w, fin = .done (.ret w) ∧ ∃ c : Bool, w = .bool c ∧ EP X pins σ Q w s') X.xe s := by
      unfold Builtin.«object.__ne__»
      have eq1 : wpAny (model X.prog X.w) X.A.in1 (callSpecialIfBound? (.ref o) "__eq__" [u]) (fun r s' => ∃ b : Bool, r = some (.bool b) ∧ EP X pins σ Q (.bool (!b)) s') X.xe s := by
        refine PySem.W.ifBound_K I.kIn J hs hf (wpAny_mono (eq_in1 G hr.in1 hb I ry hsp) (fun w s' q => ?_) fun _ _ e => e)
        obtain ⟨z, H', I', rz, b, rfl, q'⟩ := q
        cases rz
        exact ⟨b, rfl, .bl (!b), H', I', rfl, q'⟩
      refine wpAny_bind (m := slotArgs "__ne__" 1 _) (wpAny_of_eq (a := (Value.ref o, [u])) (by first | rfl | kernel_rfl!) ?_)
      dsimp only
      refine wpAny_bind (wpAny_cRoomFor hu1 ?_)
      refine wpAny_bind (wpAny_mono eq1 (fun r s' q => ?_) fun _ _ e => e)
      obtain ⟨b, rfl, q'⟩ := q
      dsimp only
      refine wpAny_bind (wpAny_truthy_bool ?_)
      exact wpAny_pure ⟨_, rfl, _, rfl, q'⟩
    have ran : wpAny (model X.prog X.w) X.A.in1 (Builtin.«object.__ne__» ⟨[.ref o, u], []⟩) (fun fin s' => match fin with
        | .done fl => (match (Except.ok fl : Result) with
          | .ok (.ret w) => ∃ c : Bool, w = .bool c ∧ EP X pins σ Q w s'
          | .ok _ => False
          | .error e => X.xe e s')
        | .again c' => c'.quiet = true ∧ codeAny (model X.prog X.w) X.A c' (fun r s' => match r with
          | .ok (.ret w) => ∃ c : Bool, w = .bool c ∧ EP X pins σ Q w s'
          | .ok _ => False
          | .error e => X.xe e s') s') (fun e s' => X.xe e s') s := wpAny_mono entry (fun fin s' q => by
      obtain ⟨w, rfl, q'⟩ := q
      exact q') fun _ _ e => e
    rw [if_neg (by decide)]
    cases hsig : Manifest.signature? "object.__ne__" with
    | none => exact wpAny_pure ran
    | some sig =>
      simp only [argsOk, hsig] at chk
      have h2 : Bind.checkArgs "object.__ne__" sig ⟨[.ref o, u], []⟩ = pure () := chk
      show wpAny _ _ (Bind.checkArgs "object.__ne__" sig ⟨[.ref o, u], []⟩) _ _ _
      rw [h2]
      exact wpAny_pure ran
  have one : wpAny (model X.prog X.w) X.A (tryCompare (.ref o) (cmpInfo .NotEq).2.1 u) (fun r s' => ∃ v, r = some v ∧ EP X pins σ Q v s') X.xe s := by
    unfold tryCompare
    refine wpAny_bind ?_
    simp only [callSpecialIfBound?, bindSpecialIfBound?]
    refine wpAny_holding (wpAny_bind (wpAny_bind (wpAny_bind (J.type.here ((PySem.W.looks_findIn I.kIn hne).here ?_)))))
    refine wpAny_bind (wpAny_askSetting (wpAny_ite ?_))
    have fin : wpAny (model X.prog X.w) X.A (call (.builtin "object.__ne__") ([.ref o] ++ [u]) >>= fun v => pure (some v)) (fun a s' => wpAny (model X.prog X.w) X.A (match a with
        | some Value.notImplemented => pure none
        | none => pure none
        | some r => pure (some r)) (fun r s' => ∃ v, r = some v ∧ EP X pins σ Q v s') X.xe s') X.xe s := wpAny_bind (wpAny_mono called (fun w s' q => by
      obtain ⟨c, rfl, q'⟩ := q
      exact wpAny_pure (wpAny_pure ⟨_, rfl, q'⟩)) fun _ _ e => e)
    have bnd := PySem.F.cmp_object.ne.bind (.ref o)
    split
    · rw [bnd]
      exact wpAny_bind (wpAny_pure (wpAny_pure fin))
    · rw [bnd]
      exact wpAny_tryCatch (wpAny_bind (wpAny_pure (wpAny_pure fin)))
  unfold richCompare
  simp only [oneThing_ref]
  refine wpAny_holding (wpAny_bind (wpAny_cRoomFor hr.units0 ?_))
  refine wpAny_bind (J.type.here (wpAny_bind ((Z.ty _ _ I.kIn p).here ?_)))
  have last : wpAny (model X.prog X.w) X.A (tryCompare (.ref o) (cmpInfo .NotEq).2.1 u) (fun r s' => ∃ v, r = some v ∧ EP X pins σ Q v s') X.xe s := one
  split
  · rename_i q
    have e : PySem.W.subIn X.K t (.ref C) = some false := by
      rcases Bool.or_eq_true_iff.mp nf with e | e
      · rw [beq_iff_eq.mp e] at q
        simp at q
      · exact beq_iff_eq.mp e
    refine wpAny_bind ((PySem.W.looks_subIn I.kIn e).here ?_)
    simp only [Bool.false_eq_true, if_false]
    refine wpAny_bind (wpAny_mono last (fun r s' z => ?_) fun _ _ e => e)
    obtain ⟨w, rfl, hq⟩ := z
    exact wpAny_pure hq
  · refine wpAny_bind (wpAny_pure ?_)
    simp only [Bool.false_eq_true, if_false]
    refine wpAny_bind (wpAny_mono last (fun r s' z => ?_) fun _ _ e => e)
    obtain ⟨w, rfl, hq⟩ := z
    exact wpAny_pure hq
end
end OB
namespace OB
open PySem PySem.Spec PyProof.Rows L2
/-! ### lands compared -/
theorem depth_txt : ∀ ss : List Str, PyData.depthAll (ss.map PyData.str) = 0
  | [] => rfl
  | _ :: ss => by
    show max 0 (PyData.depthAll (ss.map PyData.str)) = 0
    rw [depth_txt ss] <;> rfl
theorem lay_txt : ∀ ss : List Str, (∀ s ∈ ss, PyData.canLay0 (.str s) = true) → PyData.canLayAll0 (ss.map PyData.str) = true
  | [], _ => rfl
  | s :: ss, h => by
    show (PyData.canLay0 (.str s) && PyData.canLayAll0 (ss.map PyData.str)) = true
    rw [lay_txt ss fun x m => h x (List.mem_cons_of_mem _ m), h s (List.mem_cons_self ..)] <;> rfl
theorem shaped_txt (ss : List Str) (h : ∀ s ∈ ss, PyData.canLay0 (.str s) = true) : SeqAt.shaped (.tuple (ss.map PyData.str)) = true := by
  show (PyData.canLayAll0 (ss.map PyData.str) && decide (PyData.depthAll (ss.map PyData.str) + 1 ≤ 64)) = true
  rw [lay_txt ss h, depth_txt] <;> rfl
theorem dp_txt {K : PySem.W.Frag} {H : Hp} : ∀ ss : List Str, DpAll K H (ss.map V.str) (ss.map PyData.str)
  | [] => .nil
  | s :: ss => .cons (.str s) (dp_txt ss)
theorem eqv_txt : ∀ ss ts : List Str, PyData.eqvAll (ss.map PyData.str) (ts.map PyData.str) = decide (ss = ts)
  | [], [] => by simp [PyData.eqvAll]
  | [], _ :: _ => by simp [PyData.eqvAll]
  | _ :: _, [] => by simp [PyData.eqvAll]
  | s :: ss, t :: ts => by
    show (PyData.eqv (.str s) (.str t) && PyData.eqvAll (ss.map PyData.str) (ts.map PyData.str)) = _
    rw [eqv_txt ss ts]
    show ((s == t) && decide (ss = ts)) = _
    by_cases e : s = t
    · subst e
      simp
    · have z : (s == t) = false := beq_eq_false_iff_ne.mpr e
      rw [z, Bool.false_and]
      exact (decide_eq_false fun q => e (List.cons.inj q).1).symm
def spLandEq (K : PySem.W.Frag) (C : Addr) : Sp := fun vs H Q _ => ∃ (o : Addr) (ss : List Str) (m : Int) (y : V) (t : Value), vs = [.ref o, y] ∧ LandAt H C o (ss.map V.str) m ∧ (∀ s ∈ ss, PyData.canLay0 (.str s) = true) ∧ TyA K H y t ∧
  ((∃ (oy : Addr) (ts : List Str) (my : Int), y = .ref oy ∧ LandAt H C oy (ts.map V.str) my ∧ (∀ s ∈ ts, PyData.canLay0 (.str s) = true) ∧ PySem.W.kitOne K t (.ref C) = some true ∧ Q (.bl (decide (ss = ts ∧ m = my))) H) ∨ (PySem.W.kitOne K t (.ref C) = some false ∧ Q (.bl false) H))
section
variable {P : Program} {w : World} {K : PySem.W.Frag} {mg : Str → Option Value} {base : Heap}
theorem scLandEq : FnScope ["self", "other"] ["self", "other"] (defScope sLandEq) := ⟨rfl, rfl, rfl, by decide +kernel, rfl, by decide +kernel, by decide +kernel⟩
theorem ok_landEq {f C : Addr} {fd : FuncData} (F : Fun K "__eq__" "Land.__eq__" sLandEq f fd) (LC : LandC K C) (T : TxtC mg) (gC : mg "Land" = some (.ref C)) : FnOk P w K mg base CX0 1 f fd ["self", "other"] (spLandEq K C) := by
  refine F.ok scLandEq (fun vs H Q E h => ?_) (fun cdv A outer s H vs Q E hr h => ?_)
  · obtain ⟨o, ss, m, y, t, rfl, _⟩ := h
    rfl
  · obtain ⟨o, ss, m, y, t, rfl, ⟨dx, TT, h1, h2⟩, os, ty, q⟩ := h
    refine ⟨_, pss_one (ps_ret (pe_and (pe_callB call_isA (by rfl) T.isi bootIsi (pa_cons (pv 1) (pa_cons (pe_glob (v := .ref C) (by rfl) gC rfl) pa_nil)))
      (pe_and (pe_cmpR (op_eqD hr.units) (pe_fld (pv 0) rfl) (pe_fld (pv 1) rfl) (nomark _)) (pe_one (pe_cmpR op_eq (pe_fld (pv 0) rfl) (pe_fld (pv 1) rfl) (nomark _)))))), ?_⟩
    rcases q with ⟨oy, ts, my, rfl, ⟨dy, TY, g1, g2⟩, ot, kt, q⟩ | ⟨kt, q⟩
    · refine ⟨_, rfl, .ref oy, .ref C, t, .ref C, true, rfl, .own C, ty, kt, true, rfl, iteT ?_⟩
      refine ⟨_, rfl, o, C, dx, _, _, rfl, h1, LC.cl, LC.nN, by rfl, _, rfl, oy, C, dy, _, _, rfl, g1, LC.cl, LC.nN, by rfl, ?_⟩
      refine ⟨_, _, .tup (SqT.of h2) (dp_txt ss), .tup (SqT.of g2) (dp_txt ts), shaped_txt ss os, shaped_txt ts ot, _, rfl, ?_⟩
      have e : PyData.eqv (.tuple (ss.map PyData.str)) (.tuple (ts.map PyData.str)) = decide (ss = ts) := eqv_txt ss ts
      rw [e]
      by_cases z : ss = ts
      · rw [decide_eq_true z]
        refine iteT ⟨_, rfl, o, C, dx, _, _, rfl, h1, LC.cl, LC.nM, by rfl, _, rfl, oy, C, dy, _, _, rfl, g1, LC.cl, LC.nM, by rfl, rfl, ?_⟩
        have e2 : decide (V.int m = V.int my) = decide (ss = ts ∧ m = my) := decide_eq_decide.mpr ⟨fun y => ⟨z, V.int.inj y⟩, fun y => by rw [y.2]⟩
        rw [e2]
        exact q
      · rw [decide_eq_false z]
        refine iteF ?_
        have e2 : decide (ss = ts ∧ m = my) = false := decide_eq_false fun y => z y.1
        rw [e2] at q
        exact q
    · exact ⟨_, rfl, y, .ref C, t, .ref C, false, rfl, .own C, ty, kt, false, rfl, iteF q⟩
end
end OB
namespace OB
open PySem PySem.Spec PyProof.Rows L2
/-! ### parts of a deed -/
abbrev sIsPart : Stmt := top 19
def wordIn (ss : List Str) (v : V) : Bool := match v with
  | .str x => decide (x ∈ ss)
  | _ => false
def partOk (ss : List Str) (kd : Str) (v : V) (k : Kd) : Bool := if kd = ("a" : Str) then wordIn ss v else if kd = ("k" : Str) then numFrom 0 v k else numFrom 1 v k
def spWord (K : PySem.W.Frag) : Sp := fun vs H Q _ => ∃ (a : Addr) (ss : List Str) (v : V) (k : Kd), vs = [.ref a, v] ∧ SqL K H a (ss.map V.str) ∧ Any K H v k ∧ ∀ H', Same H H' → Q (.bl (wordIn ss v)) H'
def spPart (K : PySem.W.Frag) : Sp := fun vs H Q _ => ∃ (a : Addr) (ss : List Str) (kd : Str) (v : V) (k : Kd), vs = [.ref a, .str kd, v] ∧ SqL K H a (ss.map V.str) ∧ Any K H v k ∧ ∀ H', Same H H' → Q (.bl (partOk ss kd v k)) H'
theorem flat_txt : ∀ ss : List Str, (ss.map V.str).all flatV = true
  | [] => rfl
  | _ :: ss => by
    show (true && (ss.map V.str).all flatV) = true
    rw [flat_txt ss] <;> rfl
theorem inV_txt (x : Str) (ss : List Str) : inV (.str x) (ss.map V.str) = decide (x ∈ ss) := by
  rw [inV_str x _ fun y m => by
    obtain ⟨s, _, rfl⟩ := List.mem_map.mp m
    exact ⟨s, rfl⟩]
  apply decide_eq_decide.mpr
  constructor
  · intro m
    obtain ⟨s, ms, e⟩ := List.mem_map.mp m
    rw [← V.str.inj e]
    exact ms
  · exact fun m => List.mem_map.mpr ⟨x, m, rfl⟩
section
variable {P : Program} {w : World} {K : PySem.W.Frag} {mg : Str → Option Value} {base : Heap}
theorem scIsWord : FnScope ["words", "thing"] ["words", "thing"] (defScope sIsWord) := ⟨rfl, rfl, rfl, by decide +kernel, rfl, by decide +kernel, by decide +kernel⟩
theorem ok_isWord {f : Addr} {fd : FuncData} (F : Fun K "is_word_of" "is_word_of" sIsWord f fd) (T : TxtC mg) : FnOk P w K mg base CX0 1 f fd ["words", "thing"] (spWord K) := by
  refine F.ok scIsWord (fun vs H Q E h => ?_) (fun cdv A outer s H vs Q E hr h => ?_)
  · obtain ⟨a, ss, v, k, rfl, _⟩ := h
    rfl
  · obtain ⟨a, ss, v, k, rfl, hs, av, q⟩ := h
    obtain ⟨t, S⟩ := av.says
    refine ⟨_, pss_one (ps_ret (pe_and (pe_callB call_isA (by rfl) T.isi bootIsi (pa_cons (pv 1) (pa_cons (pe_bltn (v := .ty "str") (u := .type "str") (by rfl) T.str bStr rfl) pa_nil)))
      (pe_one (pe_cmpR op_in_seq (pv 1) (pv 0) (by rfl))))), ?_⟩
    refine ⟨_, rfl, v, .ty "str", t, .type "str", _, rfl, .ty _, S.ty, S.str, _, rfl, ?_⟩
    have q' := q H (Same.refl H)
    cases av with
    | @str x hx =>
      refine iteT ⟨_, rfl, _, rfl, a, _, rfl, .inl hs, rfl, flat_txt ss, ?_⟩
      have e : inV (.str x) (ss.map V.str) = wordIn ss (.str x) := inV_txt x ss
      show Q (.bl (inV (.str x) (ss.map V.str))) H
      rw [e]
      exact q'
    | _ => exact iteF q'
theorem scIsPart : FnScope ["names", "kind", "part"] ["names", "kind", "part"] (defScope sIsPart) := ⟨rfl, rfl, rfl, by decide +kernel, rfl, by decide +kernel, by decide +kernel⟩
theorem ok_isPart {f fW fN fO : Addr} {fd fdW fdN fdO : FuncData} (F : Fun K "is_part" "is_part" sIsPart f fd) (FW : Fun K "is_word_of" "is_word_of" sIsWord fW fdW) (gW : mg "is_word_of" = some (.ref fW)) (T : TxtC mg)
    (GN : FnOk P w K mg base CX0 2 fN fdN ["thing"] (spAsk K (numFrom 0))) (gN : mg "is_number" = some (.ref fN)) (kN : PySem.W.keepIn K (.ref fN) = true) (bN : Binds K fdN ["thing"] [])
    (GO : FnOk P w K mg base CX0 2 fO fdO ["thing"] (spAsk K (numFrom 1))) (gO : mg "is_from_one" = some (.ref fO)) (kO : PySem.W.keepIn K (.ref fO) = true) (bO : Binds K fdO ["thing"] []) : FnOk P w K mg base CX0 3 f fd ["names", "kind", "part"] (spPart K) := by
  have GW : FnOk P w K mg base CX0 1 fW fdW ["words", "thing"] (spWord K) := ok_isWord FW T
  have bW : Binds K fdW ["words", "thing"] [] := FW.binds fun _ _ _ _ _ _ us hl => match us, hl with | [_, _], _ => rfl
  refine F.ok scIsPart (fun vs H Q E h => ?_) (fun cdv A outer s H vs Q E hr h => ?_)
  · obtain ⟨a, ss, kd, v, k, rfl, _⟩ := h
    rfl
  · obtain ⟨a, ss, kd, v, k, rfl, hs, av, q⟩ := h
    refine ⟨_, pss_cons (ps_if (pt_cmpR op_eq (pv 1) pe_str (nomark _)) (pss_one (ps_ret (pe_call GW (hr.mono (by decide)) (by rfl) gW FW.kp bW .nil pass0 (pa_cons (pv 0) (pa_cons (pv 2) pa_nil))))) pss_nil)
      (pss_cons (ps_if (pt_cmpR op_eq (pv 1) pe_str (nomark _)) (pss_one (ps_ret (pe_call GN hr (by rfl) gN kN bN .nil pass0 (pa_cons (pv 2) pa_nil)))) pss_nil)
      (pss_one (ps_ret (pe_call GO hr (by rfl) gO kO bO .nil pass0 (pa_cons (pv 2) pa_nil))))), ?_⟩
    refine ⟨_, rfl, rfl, _, rfl, ?_⟩
    refine ite2 (fun h => ?_) (fun h => ?_)
    · have e : kd = ("a" : Str) := V.str.inj (of_decide_eq_true h)
      have pe : partOk ss kd v k = wordIn ss v := if_pos e
      rw [pe] at q
      exact ⟨_, rfl, _, rfl, a, ss, v, k, rfl, hs, av, q⟩
    · have e : kd ≠ ("a" : Str) := fun z => h (by rw [z]; exact decide_eq_true rfl)
      refine ⟨_, rfl, rfl, _, rfl, ?_⟩
      refine ite2 (fun h2 => ?_) (fun h2 => ?_)
      · have e2 : kd = ("k" : Str) := V.str.inj (of_decide_eq_true h2)
        have pe : partOk ss kd v k = numFrom 0 v k := (if_neg e).trans (if_pos e2)
        rw [pe] at q
        exact ⟨_, rfl, v, k, rfl, av, q⟩
      · have e2 : kd ≠ ("k" : Str) := fun z => h2 (by rw [z]; exact decide_eq_true rfl)
        have pe : partOk ss kd v k = numFrom 1 v k := (if_neg e).trans (if_neg e2)
        rw [pe] at q
        exact ⟨_, rfl, v, k, rfl, av, q⟩
end
end OB
namespace OB
open PySem PySem.Spec PyProof.Rows L2
/-! ### the law's own look at names -/
abbrev sLName : Stmt := top 56
theorem mem_cat (c : Nat) (a b : Str) : decide (c ∈ (a ++ b).cps.toList) = (decide (c ∈ a.cps.toList) || decide (c ∈ b.cps.toList)) := by
  have e : (a ++ b).cps.toList = a.cps.toList ++ b.cps.toList := by
    show (a.cps ++ b.cps).toList = _
    simp
  rw [e]
  by_cases h : c ∈ a.cps.toList
  · rw [decide_eq_true h, Bool.true_or]
    exact decide_eq_true (List.mem_append_left _ h)
  · rw [decide_eq_false h, Bool.false_or]
    apply decide_eq_decide.mpr
    constructor
    · intro m
      rcases List.mem_append.mp m with z | z
      · exact absurd z h
      · exact z
    · exact fun m => List.mem_append_right _ m
section
variable {P : Program} {w : World} {K : PySem.W.Frag} {mg : Str → Option Value} {base : Heap}
theorem scLName : FnScope ["thing", "letters", "sign"] ["thing"] (defScope sLName) := ⟨rfl, rfl, rfl, by decide +kernel, rfl, by decide +kernel, by decide +kernel⟩
theorem ok_lName {f : Addr} {fd : FuncData} (F : Fun K "_law_is_name" "_law_is_name" sLName f fd) (T : TxtC mg) : FnOk P w K mg base CX0 1 f fd ["thing"] (spAsk K fName) := by
  refine F.ok scLName (fun vs H Q E h => ?_) (fun cdv A outer s H vs Q E hr h => ?_)
  · obtain ⟨v, k, rfl, _⟩ := h
    rfl
  · obtain ⟨v, k, rfl, a, q⟩ := h
    obtain ⟨t, S⟩ := a.says
    have nd := scLName.nd
    refine ⟨_, pss_cons (ps_set (i := 1) nd rfl (Or.inr rfl) pe_str)
      (pss_cons (ps_if (PW.pt (pw_or (pt_not (pt_val (pe_callB call_isA (by rfl) T.isi bootIsi (pa_cons (pv 0) (pa_cons (pe_bltn (v := .ty "str") (u := .type "str") (by rfl) T.str bStr rfl) pa_nil)))))
        (pw_or (pt_not (pt_chain op_le op_le pe_int (pe_callB call_len_str (by rfl) T.len PySem.boot_len (pa_cons (pv 0) pa_nil)) pe_int))
          (pw_or1 (pt_cmpR op_notIn_sign (pe_ix ix_str (pv 0) pe_int (fun _ _ => rfl)) (pv 1) (by rfl))))))
        (pss_one (ps_ret pe_bl)) pss_nil)
      (pss_one (ps_ret (pe_callB (cr_all rfl) (by rfl) T.all (by decide +kernel) (pa_cons (pe_lc (own := [("sign", 2)]) (g := gName 2) (tt := tYes) rfl nd (pi_str (pv 0)) (blkOk_by (N := ["thing", "letters", "sign"]) (sc := defScope sLName) (by decide +kernel))
          (fun _ _ _ _ _ => pg_name (i := 2) nd rfl (Or.inl rfl)) (fun _ _ _ _ _ => pts_nil)
          (fun _ _ _ _ _ => pe_cmpR op_in_sign (pv 2) (pe_op op_add_str (pv 1) pe_str) (by rfl))) pa_nil))))), ?_⟩
    refine ⟨_, rfl, v, .ty "str", t, .type "str", _, rfl, .ty _, S.ty, S.str, _, rfl, ?_⟩
    have q0 := q H (Same.refl H)
    cases a with
    | @str x hx =>
      have hx2 : x.length ≤ sizeLine := Nat.le_trans hx (by decide)
      refine iteF ⟨_, rfl, x, rfl, hx2, 1, (x.length : Int), rfl, rfl, _, rfl, ?_⟩
      have fls : isNameS x = false → Q (.bl false) H := fun z => by
        have e : fName (.str x) .str = false := z
        rw [← e]
        exact q0
      have ln : x.length = x.cps.toList.length := by simp [Str.length]
      refine ite2 (fun h1 => ⟨_, 8, rfl, rfl, ?_⟩) (fun h1 => ?_)
      · have g1 : 1 ≤ x.length := by
          have z := of_decide_eq_true h1
          omega
        refine ⟨_, rfl, ?_⟩
        by_cases g2 : x.length ≤ 8
        · have e2 : decide (((x.length : Int)) ≤ 8) = true := decide_eq_true (by omega)
          rw [e2]
          refine iteF ?_
          obtain ⟨c, hc⟩ : ∃ c, x.cps.toList[0]? = some c := ⟨_, List.getElem?_eq_getElem (by omega)⟩
          obtain ⟨cs, hcs⟩ : ∃ cs, x.cps.toList = c :: cs := by
            cases e : x.cps.toList with
            | nil => rw [e] at hc; cases hc
            | cons d ds =>
              rw [e] at hc
              cases hc
              exact ⟨ds, rfl⟩
          have val : isNameS x = (decide (c ∈ letters.cps.toList) && x.cps.toList.all okSign) := by
            unfold isNameS isNameL
            rw [hcs]
            show (decide ((c :: cs).length ≤ 8) && _) = _
            rw [decide_eq_true (by rw [← hcs, ← ln]; exact g2), Bool.true_and]
          refine ⟨_, rfl, x, 0, c, rfl, rfl, hx2, atI_nat hc, _, rfl, c, letters, rfl, rfl, _, rfl, ?_⟩
          by_cases g3 : c ∈ letters.cps.toList
          · rw [decide_eq_true g3]
            refine iteF ⟨_, rfl, x, rfl, fun D nD => ?_⟩
            refine lc_str (fun i G => (∀ b o, b ≠ D → H b = some o → G b = some o) ∧ G D = some (.lst ((x.cps.toList.take i).map fun c => V.bl (okSign c)))) ⟨fun b o nb e => by rw [upd_ne nb]; exact e, by rw [upd_same]; rfl⟩ (fun i d G hd ⟨k1, k2⟩ => ?_) (fun G ⟨k1, k2⟩ => ?_)
            · refine ⟨rfl, ?_⟩
              dsimp only [tYes]
              rw [if_pos rfl]
              have hd' : x.cps.toList[i]? = some d := by simpa using hd
              have fin : ∃ acc, G D = some (.lst acc) ∧ acc.length < sizeLine ∧ ((∀ b o, b ≠ D → H b = some o → (upd G D (.lst (acc ++ [V.bl (okSign d)]))) b = some o) ∧ (upd G D (.lst (acc ++ [V.bl (okSign d)]))) D = some (.lst ((x.cps.toList.take (i + 1)).map fun c => V.bl (okSign c)))) := by
                refine ⟨_, k2, ?_, fun b o nb e => by rw [upd_ne nb]; exact k1 b o nb e, ?_⟩
                · rw [List.length_map, List.length_take, sizeLine_eq]
                  omega
                · rw [upd_same, List.take_add_one, hd', List.map_append]
                  rfl
              refine ⟨_, rfl, _, rfl, letters, figures, rfl, rfl, by decide +kernel, d, letters ++ figures, rfl, rfl, ?_⟩
              have ok : decide (d ∈ (letters ++ figures).cps.toList) = okSign d := mem_cat d letters figures
              rw [ok]
              exact fin
            · refine ⟨D, x.cps.toList.map okSign, rfl, SqL.of ?_, ?_⟩
              · rw [k2, List.map_map]
                have z : x.cps.toList.take x.cps.size = x.cps.toList := List.take_of_length_le (by simp)
                rw [z] <;> rfl
              · have e : fName (.str x) .str = (x.cps.toList.map okSign).all id := by
                  show isNameS x = _
                  rw [val, decide_eq_true g3, Bool.true_and, List.all_map] <;> rfl
                rw [← e]
                exact q G fun b o eb => k1 b o (ne_of_none eb nD) eb
          · rw [decide_eq_false g3]
            exact iteT (fls (by rw [val, decide_eq_false g3, Bool.false_and]))
        · have e2 : decide (((x.length : Int)) ≤ 8) = false := decide_eq_false (by omega)
          rw [e2]
          refine iteT (fls ?_)
          unfold isNameS isNameL
          cases e : x.cps.toList with
          | nil => rfl
          | cons d ds =>
            show (decide ((d :: ds).length ≤ 8) && _) = false
            rw [decide_eq_false (by rw [← e, ← ln]; exact g2), Bool.false_and]
      · refine ⟨_, rfl, iteT (fls ?_)⟩
        have g1 : ¬ 1 ≤ x.length := fun z => h1 (decide_eq_true (by omega))
        unfold isNameS isNameL
        cases e : x.cps.toList with
        | nil => rfl
        | cons d ds =>
          rw [ln, e] at g1
          simp at g1
    | _ => exact iteT q0
end
end OB
namespace OB
open PySem PySem.Spec PyProof.Rows L2
/-! ### the law's own look at lists of names -/
abbrev sLOdd : Stmt := top 59
theorem cut_take (xs : List V) (i : Nat) (h : i ≤ xs.length) : cutV xs none (some (i : Int)) = xs.take i := by
  unfold cutV
  rw [HT.sIx_nat, HT.sIx_none, Nat.min_eq_left h]
  rfl
def spLOdd (K : PySem.W.Frag) : Sp := fun vs H Q _ => ∃ (a : Addr) (xs : List V), vs = [.ref a] ∧ SqL K H a xs ∧ AllAny K H xs ∧ xs.length < 1000 ∧
  (∀ (i : Nat) H', DueAt xs i → Same H H' → Q (.int (i : Nat)) H') ∧ ((∀ j, j < xs.length → oddAt xs j = false) → 2 ≤ xs.length → ∀ H', Same H H' → Q .non H')
section
variable {P : Program} {w : World} {K : PySem.W.Frag} {mg : Str → Option Value} {base : Heap}
theorem scLOdd : FnScope ["names", "index", "thing"] ["names"] (defScope sLOdd) := ⟨rfl, rfl, rfl, by decide +kernel, rfl, by decide +kernel, by decide +kernel⟩
theorem ok_lOdd {f fN : Addr} {fd fdN : FuncData} (F : Fun K "_law_first_odd" "_law_first_odd" sLOdd f fd) (FN : Fun K "_law_is_name" "_law_is_name" sLName fN fdN) (gN : mg "_law_is_name" = some (.ref fN)) (T : TxtC mg) (en : mg "enumerate" = none) : FnOk P w K mg base CX0 2 f fd ["names"] (spLOdd K) := by
  have GN : FnOk P w K mg base CX0 1 fN fdN ["thing"] (spAsk K fName) := ok_lName FN T
  have bN : Binds K fdN ["thing"] [] := FN.binds fun _ _ _ _ _ _ us hl => match us, hl with | [_], _ => rfl
  refine F.ok scLOdd (fun vs H Q E h => ?_) (fun cdv A outer s H vs Q E hr h => ?_)
  · obtain ⟨a, xs, rfl, _⟩ := h
    rfl
  · obtain ⟨p, xs, rfl, hx, hA, hlen, hI, hN⟩ := h
    have nd := scLOdd.nd
    refine ⟨_, pss_cons (ps_for PassesOwn.never rfl (pi_enT (by rfl) en (pa_cons (pv 0) pa_nil)) (pg_tup rfl (pgs_cons (pg_name (i := 1) nd rfl (Or.inl rfl)) (pgs_cons (pg_name (i := 2) nd rfl (Or.inl rfl)) pgs_nil)))
        (pss_one (ps_if (PW.pt (pw_or (pt_not (pt_val (pe_call GN hr (by rfl) gN FN.kp bN .nil pass0 (pa_cons (pv 2) pa_nil)))) (pw_or1 (pt_cmpR op_in_seq (pv 2) (pe_slice sl_list (pv 0) po_none (po_some (pv 1))) (by rfl)))))
          (pss_one (ps_ret (pv 1))) pss_nil)))
      (pss_one (ps_ret (pe_ifExp (pt_cmpR op_lt (pe_callB call_len_seq (by rfl) T.len PySem.boot_len (pa_cons (pv 0) pa_nil)) pe_int (nomark _)) (pe_callB call_len_seq (by rfl) T.len PySem.boot_len (pa_cons (pv 0) pa_nil)) pe_non))), ?_⟩
    refine ⟨_, rfl, p, xs, rfl, .inl ⟨hx, for_enL (xs := xs) (fun i σ G => (∃ o1 o2 : Option V, σ = [some (.ref p), o1, o2]) ∧ Same H G ∧ ∀ j, j < i → oddAt xs j = false) ⟨⟨_, _, rfl⟩, Same.refl H, fun j hj => absurd hj (Nat.not_lt_zero j)⟩ (fun i σ G q => q.2.1.seq hx) ?_ ?_⟩⟩
    · rintro i x TT σ G hi ⟨⟨o1, o2, rfl⟩, eG, hj⟩ hT
      have hlt : i < xs.length := (List.getElem?_eq_some_iff.mp hi).1
      refine ⟨TT, _, rfl, SqT.of upd_same, rfl, .int (i : Nat), _, rfl, x, _, rfl, rfl, ?_⟩
      have e3 : Same G (upd G TT (.tup [.int (i : Nat), x])) := Same.new hT
      obtain ⟨kx, ax⟩ := hA x (List.mem_of_getElem? hi)
      refine ⟨_, rfl, x, kx, rfl, (ax.same eG).same e3, fun G2 e4 => ⟨_, rfl, ?_⟩⟩
      have e5 : Same H G2 := (eG.trans e3).trans e4
      have due : oddAt xs i = true → DueAt xs i := fun z => ⟨Nat.le_of_lt hlt, hj, fun _ => z, fun q => absurd q (Nat.ne_of_lt hlt)⟩
      have onward : oddAt xs i = false → ∀ j, j < i + 1 → oddAt xs j = false := fun z j hj' => by
        by_cases q : j = i
        · rw [q]
          exact z
        · exact hj j (by omega)
      cases hn : fName x kx with
      | false =>
        refine iteT ⟨_, rfl, hI i G2 (due ?_) e5⟩
        unfold oddAt
        rw [hi]
        cases x with
        | str y =>
          have hn' : isNameS y = false := hn
          show (!isNameS y || _) = true
          rw [hn'] <;> rfl
        | _ => rfl
      | true =>
        obtain ⟨y, rfl⟩ : ∃ y, x = V.str y := by
          cases x with
          | str y => exact ⟨y, rfl⟩
          | _ => cases hn
        have hn' : isNameS y = true := hn
        have allS : ∀ z ∈ xs.take i, ∃ t, z = V.str t := fun z mz => by
          obtain ⟨j, hj1, hj2⟩ := List.getElem_of_mem mz
          have hj3 : j < i := by
            have q := hj1
            rw [List.length_take] at q
            omega
          have hj4 : xs[j]? = some z := by
            rw [← hj2, List.getElem_take]
            exact List.getElem?_eq_getElem _
          have o := hj j hj3
          unfold oddAt at o
          rw [hj4] at o
          cases z with
          | str t => exact ⟨t, rfl⟩
          | _ => cases o
        have odd : oddAt xs i = decide (V.str y ∈ xs.take i) := by
          unfold oddAt
          rw [hi]
          show (!isNameS y || _) = _
          rw [hn'] <;> rfl
        refine iteF ⟨_, rfl, _, rfl, _, rfl, (i : Int), rfl, p, xs, rfl, e5.seq hx, fun D nD => ?_⟩
        rw [cut_take xs i (Nat.le_of_lt hlt)]
        have e6 : Same H (upd G2 D (.lst (xs.take i))) := e5.trans (Same.new nD)
        refine ⟨D, _, rfl, .inl (SqL.of upd_same), rfl, List.all_eq_true.mpr fun z mz => ?_, _, rfl, ?_⟩
        · obtain ⟨t, rfl⟩ := allS z mz
          rfl
        rw [inV_str y _ allS, ← odd]
        cases ho : oddAt xs i with
        | true => exact iteT ⟨_, rfl, hI i _ (due ho) e6⟩
        | false => exact iteF ⟨⟨_, _, rfl⟩, e6, onward ho⟩
    · rintro σ G ⟨⟨o1, o2, rfl⟩, eG, hj⟩
      have hx2 := eG.seq hx
      refine ⟨_, rfl, p, xs, rfl, .inl hx2, (xs.length : Int), 2, rfl, rfl, _, rfl, ?_⟩
      refine ite2 (fun h => ?_) (fun h => ?_)
      · have l2 : xs.length < 2 := by
          have z := of_decide_eq_true h
          omega
        exact ⟨_, rfl, p, xs, rfl, .inl hx2, hI xs.length G ⟨Nat.le_refl _, hj, fun q => absurd q (Nat.lt_irrefl _), fun _ => l2⟩ eG⟩
      · have l2 : 2 ≤ xs.length := by
          have z : ¬ ((xs.length : Int) < 2) := fun q => h (decide_eq_true q)
          omega
        exact hN hj l2 G eG
end
end OB
namespace OB
open PySem PySem.Spec PyProof.Rows L2
/-! ### drawn names; the law's look at parts -/
abbrev sONames : Stmt := top 53
abbrev sLPart : Stmt := top 57
def seven : List Str := ["a", "b", "c9", "zz", "home", "b2", "eightsgn"]
def toTxt (v : V) : Option Str := match v with
  | .str s => some s
  | _ => none
theorem txt_back (l : List Str) : (l.map V.str).filterMap toTxt = l := by
  induction l with
  | nil => rfl
  | cons s l ih =>
    show (V.str s :: l.map V.str).filterMap toTxt = _
    rw [List.filterMap_cons]
    show s :: (l.map V.str).filterMap toTxt = _
    rw [ih]
theorem txt_fwd : ∀ ys : List V, (∀ y ∈ ys, ∃ s, y = V.str s) → (ys.filterMap toTxt).map V.str = ys
  | [], _ => rfl
  | y :: ys, h => by
    obtain ⟨s, rfl⟩ := h y (List.mem_cons_self ..)
    rw [List.filterMap_cons]
    show V.str s :: (ys.filterMap toTxt).map V.str = _
    rw [txt_fwd ys fun z m => h z (List.mem_cons_of_mem _ m)]
theorem perm_txt {ys : List V} {l : List Str} (p : ys.Perm (l.map V.str)) : ∃ ss : List Str, ys = ss.map V.str ∧ ss.Perm l := by
  refine ⟨ys.filterMap toTxt, (txt_fwd ys fun y m => ?_).symm, ?_⟩
  · obtain ⟨s, _, rfl⟩ := List.mem_map.mp (p.mem_iff.mp m)
    exact ⟨s, rfl⟩
  · have q := p.filterMap toTxt
    rw [txt_back] at q
    exact q
def spONames : Sp := fun vs H Q _ => ∃ (p : Addr) (n : Nat), vs = [.ref p, .int (n : Int)] ∧ Src H p ∧ n ≤ 7 ∧
  ∀ H' D (ss : List Str), ButS p H H' → Src H' p → H D = none → H' D = some (.lst (ss.map V.str)) → ss.length = n → ss.Nodup → (∀ s ∈ ss, s ∈ seven) → Q (.ref D) H'
theorem seven_nd : seven.Nodup := by decide +kernel
section
variable {P : Program} {w : World} {K : PySem.W.Frag} {mg : Str → Option Value} {base : Heap}
theorem scONames : FnScope ["source", "many"] ["source", "many"] (defScope sONames) := ⟨rfl, rfl, rfl, by decide +kernel, rfl, by decide +kernel, by decide +kernel⟩
theorem ok_oNames {f fM fD : Addr} {fd fdM fdD : FuncData} (F : Fun K "_law_o_names" "_law_o_names" sONames f fd) (T : TxtD mg) (FD : Fun K "_law_draw" "_law_draw" sDraw fD fdD) (gD : mg "_law_draw" = some (.ref fD)) (FM : Fun K "_law_mixed" "_law_mixed" sMixed fM fdM) (gM : mg "_law_mixed" = some (.ref fM)) : FnOk P w K mg base CX0 3 f fd ["source", "many"] spONames := by
  have GM : FnOk P w K mg base CX0 2 fM fdM ["source", "some"] (spMixed K) := ok_mixed FM T FD gD
  have bM : Binds K fdM ["source", "some"] [] := FM.binds fun _ _ _ _ _ _ us hl => match us, hl with | [_, _], _ => rfl
  refine F.ok scONames (fun vs H Q E h => ?_) (fun cdv A outer s H vs Q E hr h => ?_)
  · obtain ⟨p, n, rfl, _⟩ := h
    rfl
  · obtain ⟨p, n, rfl, S, hn, q⟩ := h
    refine ⟨_, pss_one (ps_ret (pe_slice sl_list (pe_call GM hr (by rfl) gM FM.kp bM .nil pass0 (pa_cons (pv 0) (pa_cons (pe_lst (pa_cons pe_str (pa_cons pe_str (pa_cons pe_str (pa_cons pe_str (pa_cons pe_str (pa_cons pe_str (pa_cons pe_str pa_nil)))))))) pa_nil))) po_none (po_some (pv 1)))), ?_⟩
    refine ⟨_, rfl, by show 7 ≤ sizeLine; decide, fun l nl => ?_⟩
    have S1 : Src (upd H l (.lst (seven.map V.str))) p := S.but nl
    have lp : l ≠ p := S.ne nl
    refine ⟨p, l, seven.map V.str, rfl, S1, SqL.of upd_same, lp, by decide +kernel, fun H1 D ys B1 S2 nD gD' pm => ?_⟩
    obtain ⟨ss, rfl, ps⟩ := perm_txt pm
    have lss : ss.length = 7 := ps.length_eq
    refine ⟨_, rfl, (n : Int), rfl, D, _, rfl, SqL.of gD', fun R nR => ?_⟩
    rw [cut_take _ n (by rw [List.length_map, lss]; exact hn), ← List.map_take]
    have nl1 : H R = none := by
      cases z : H R with
      | none => rfl
      | some o =>
        have z1 : (upd H l (.lst (seven.map V.str))) R = some o := by
          rw [upd_ne (ne_of_none z nl)]
          exact z
        by_cases e : R = p
        · rw [e] at nR
          obtain ⟨d, s, c, hp⟩ := S2
          rw [hp] at nR
          cases nR
        · rw [B1 _ _ e z1] at nR
          cases nR
    have B : ButS p H (upd H1 R (.lst ((ss.take n).map V.str))) := fun b o nb e => by
      have e1 : (upd H l (.lst (seven.map V.str))) b = some o := by
        rw [upd_ne (ne_of_none e nl)]
        exact e
      have e2 := B1 _ _ nb e1
      rw [upd_ne (ne_of_none e2 nR)]
      exact e2
    refine q _ R (ss.take n) B (S2.but nR) nl1 upd_same ?_ ?_ fun s m => ?_
    · rw [List.length_take, lss]
      omega
    · exact (List.Nodup.sublist (List.take_sublist n ss) (ps.nodup_iff.mpr seven_nd))
    · exact ps.mem_iff.mp (List.mem_of_mem_take m)
end
end OB
namespace OB
open PySem PySem.Spec PyProof.Rows L2
/-! ### the law's look at parts -/
def partZ (ss : List Str) (kd : Str) (v : V) (k : Kd) : Bool := if kd = ("a" : Str) then wordIn ss v else numFrom (if kd = ("z" : Str) then 0 else 1) v k
def spLPart (K : PySem.W.Frag) : Sp := fun vs H Q _ => ∃ (a : Addr) (ss : List Str) (kd : Str) (v : V) (k : Kd), vs = [.ref a, .str kd, v] ∧ SqL K H a (ss.map V.str) ∧ Any K H v k ∧ Q (.bl (partZ ss kd v k)) H
section
variable {P : Program} {w : World} {K : PySem.W.Frag} {mg : Str → Option Value} {base : Heap}
theorem scLPart : FnScope ["names", "kind", "part"] ["names", "kind", "part"] (defScope sLPart) := ⟨rfl, rfl, rfl, by decide +kernel, rfl, by decide +kernel, by decide +kernel⟩
theorem ok_lPart {f : Addr} {fd : FuncData} (F : Fun K "_law_is_part" "_law_is_part" sLPart f fd) (T : TxtC mg) : FnOk P w K mg base CX0 1 f fd ["names", "kind", "part"] (spLPart K) := by
  refine F.ok scLPart (fun vs H Q E h => ?_) (fun cdv A outer s H vs Q E hr h => ?_)
  · obtain ⟨a, ss, kd, v, k, rfl, _⟩ := h
    rfl
  · obtain ⟨a, ss, kd, v, k, rfl, hs, av, q⟩ := h
    obtain ⟨t, S⟩ := av.says
    refine ⟨_, pss_cons (ps_if (pt_cmpR op_eq (pv 1) pe_str (nomark _))
        (pss_one (ps_ret (pe_and (pe_callB call_isA (by rfl) T.isi bootIsi (pa_cons (pv 2) (pa_cons (pe_bltn (v := .ty "str") (u := .type "str") (by rfl) T.str bStr rfl) pa_nil))) (pe_one (pe_cmpR op_in_seq (pv 2) (pv 0) (by rfl)))))) pss_nil)
      (pss_one (ps_ret (pe_and (pe_callB call_isA (by rfl) T.isi bootIsi (pa_cons (pv 2) (pa_cons (pe_bltn (v := .ty "int") (u := .type "int") (by rfl) T.int bInt rfl) pa_nil)))
        (pe_and (pe_not (pe_callB call_isA (by rfl) T.isi bootIsi (pa_cons (pv 2) (pa_cons (pe_bltn (v := .ty "bool") (u := .type "bool") (by rfl) T.bool bBool rfl) pa_nil))))
          (pe_one (pe_cmpR op_ge (pv 2) (pe_ifExp (pt_cmpR op_eq (pv 1) pe_str (nomark _)) pe_int pe_int) (nomark _))))))), ?_⟩
    refine ⟨_, rfl, rfl, _, rfl, ?_⟩
    refine ite2 (fun h => ?_) (fun h => ?_)
    · have e : kd = ("a" : Str) := V.str.inj (of_decide_eq_true h)
      have pe : partZ ss kd v k = wordIn ss v := if_pos e
      rw [pe] at q
      refine ⟨_, rfl, v, .ty "str", t, .type "str", _, rfl, .ty _, S.ty, S.str, _, rfl, ?_⟩
      cases av with
      | @str x hx =>
        refine iteT ⟨_, rfl, _, rfl, a, _, rfl, .inl hs, rfl, flat_txt ss, ?_⟩
        have e2 : inV (.str x) (ss.map V.str) = wordIn ss (.str x) := inV_txt x ss
        show Q (.bl (inV (.str x) (ss.map V.str))) H
        rw [e2]
        exact q
      | _ => exact iteF q
    · have e : kd ≠ ("a" : Str) := fun z => h (by rw [z]; exact decide_eq_true rfl)
      have pe : partZ ss kd v k = numFrom (if kd = ("z" : Str) then 0 else 1) v k := if_neg e
      rw [pe] at q
      refine ⟨_, rfl, v, .ty "int", t, .type "int", _, rfl, .ty _, S.ty, S.int, _, rfl, ?_⟩
      cases av with
      | int i =>
        refine iteT ⟨_, rfl, .int i, .ty "bool", t, .type "bool", _, rfl, .ty _, S.ty, S.bool, _, rfl, true, rfl, iteT ?_⟩
        refine ⟨_, rfl, _, rfl, rfl, _, rfl, ?_⟩
        refine ite2 (fun h2 => ?_) (fun h2 => ?_)
        · have e2 : kd = ("z" : Str) := V.str.inj (of_decide_eq_true h2)
          rw [if_pos e2] at q
          exact ⟨i, 0, rfl, rfl, q⟩
        · have e2 : kd ≠ ("z" : Str) := fun z => h2 (by rw [z]; exact decide_eq_true rfl)
          rw [if_neg e2] at q
          exact ⟨i, 1, rfl, rfl, q⟩
      | bl b => exact iteT ⟨_, rfl, .bl b, .ty "bool", t, .type "bool", _, rfl, .ty _, S.ty, S.bool, _, rfl, false, rfl, iteF q⟩
      | _ => exact iteF q
end
end OB
namespace OB
open PySem PySem.Spec PyProof.Rows
/-! ### how many unlike texts a list has -/
def few (xs : List Str) : Nat → Nat
  | 0 => 0
  | i + 1 => if (xs.take i).any (· == xs.getD i Str.empty) then few xs i else few xs i + 1
theorem few_le (xs : List Str) : ∀ i, few xs i ≤ i
  | 0 => Nat.le_refl _
  | i + 1 => by
    have z := few_le xs i
    unfold few
    split <;> omega
theorem take_more {xs : List Str} {i : Nat} (h : i < xs.length) : xs.take (i + 1) = xs.take i ++ [xs.getD i Str.empty] := by
  rw [List.take_add_one, List.getElem?_eq_getElem h, List.getD_eq_getElem?_getD, List.getElem?_eq_getElem h] <;> rfl
theorem any_more {xs : List Str} {i : Nat} (h : i < xs.length) (y : Str) : ((xs.take i).any (· == y) || decide (y = xs.getD i Str.empty)) = (xs.take (i + 1)).any (· == y) := by
  rw [take_more h, List.any_append]
  congr 1
  generalize xs.getD i Str.empty = z
  by_cases e : y = z
  · subst e
    simp
  · have q : (z == y) = false := beq_eq_false_iff_ne.mpr fun x => e x.symm
    simp [q, e]
def freshS (led : Bool) : Obj := { cls := .type "set", dict := none, data := .set #[] 0 (.fresh 0 0 led) }
section
variable {prog : Program} {w : World} {A : Around} {R : Result → Shared → Prop} {J : Addr} {fp wr : List Addr} {G : Array GenState → Array GenState → Prop} {n : Nat} {Pv : Nat → Value → Prop} {St : Nat → Shared → Prop}
theorem loopT (Wk : WalksS prog w A.in1 J fp wr G n Pv St) (D : Addr) (nD : D ∉ fp) (xs : List Str) (hlen : xs.length = n) (hv : ∀ i v, Pv i v → ∃ t, v = .str (xs.getD i Str.empty) t) (hb : n + 1 < scanBound) :
    ∀ (r i : Nat) (s : Shared), n - i = r → i ≤ n → St i s → s.heap.SetOf (PySem.strKind prog w) D (fun y => (xs.take i).any (· == y)) (few xs i) →
      (∀ s', Moved (D :: wr) G s s' → s'.heap.SetOf (PySem.strKind prog w) D (fun y => (xs.take n).any (· == y)) (few xs n) → R (.ok (.ret .none)) s') →
      codeAny (model prog w) A (.builtin "set.update.loop" ⟨[.ref D, .ref J], []⟩) R s := by
  have nDw : D ∉ wr := fun q => nD (Wk.sub _ q)
  have more : ∀ b ∈ wr, b ∈ D :: wr := fun b q => List.mem_cons_of_mem _ q
  have stay : ∀ {s s' : Shared} {f : Str → Bool} {m : Nat}, Moved wr G s s' → s.heap.SetOf (PySem.strKind prog w) D f m → s'.heap.SetOf (PySem.strKind prog w) D f m := fun mv z => by
    obtain ⟨o, es, ep, tb, g1, g2⟩ := z
    exact ⟨o, es, ep, tb, mv.heap D _ nDw g1, g2⟩
  intro r
  induction r with
  | zero =>
    intro i s e1 e2 st hD fin
    obtain rfl : i = n := by omega
    refine codeAny_builtin PyProof.Rows.F.entry_set_update_loop (by
      rw [Around.under_plainId PyProof.Rows.F.plain_set_update_loop _]
      show wpAny _ A.in1 (pyNext (.ref J) >>= _) _ _ s
      exact wpAny_bind (Wk.done s _ _ st fun s' mv => wpAny_pure (fin s' (mv.mono more) (stay mv hD))))
  | succ r ih =>
    intro i s e1 e2 st hD fin
    have lt : i < n := by omega
    refine codeAny_builtin PyProof.Rows.F.entry_set_update_loop (by
      rw [Around.under_plainId PyProof.Rows.F.plain_set_update_loop _]
      show wpAny _ A.in1 (pyNext (.ref J) >>= _) _ _ s
      refine wpAny_bind (Wk.item i s _ _ lt st fun v s' pv st' mv => ?_)
      obtain ⟨t, rfl⟩ := hv i v pv
      have hD1 := stay mv hD
      show wpAny _ A.in1 (holding [Value.str (xs.getD i Str.empty) t] (setAdd D (.str (xs.getD i Str.empty) t)) >>= _) _ _ s'
      refine wpAny_bind (wpAny_holding (by
        unfold setAdd
        refine wpAny_holding (wpAny_bind ((PySem.strKind prog w).pyHash (k := xs.getD i Str.empty) (strKind_is _ _ _ _) ?_))
        have room : few xs i + 1 < scanBound := by
          have z := few_le xs i
          omega
        refine wpAny_setAddHashed_of (knd := PySem.strKind prog w) (s := { s' with toks := s'.toks + 1 }) (strKind_is _ _ _ _) rfl hD1 room fun g sb hD2 => ?_
        have hD3 : g.SetOf (PySem.strKind prog w) D (fun y => (xs.take (i + 1)).any (· == y)) (few xs (i + 1)) := SetOf_congr hD2 (fun y => any_more (by omega) y) rfl
        refine wpAny_pure ⟨plainId_quiet PyProof.Rows.F.plain_set_update_loop _, ih (i + 1) _ (by omega) lt (Wk.frame _ s' _ _ st' (Nat.le_succ _) fun b m o e => ?_) hD3 fun s2 mv2 hD4 => ?_⟩
        · rw [sb.2 b (fun z : b = D => nD (z ▸ m))]
          exact e
        · refine fin s2 (Moved.trans Wk.gtrans ((mv.mono more).then_heap (Nat.le_succ _) fun b o m e => ?_) mv2) hD4
          rw [sb.2 b (fun z : b = D => m (z ▸ List.mem_cons_self))]
          exact e)))
end
end OB
namespace OB
open PySem PySem.Spec PyProof.Rows
open SS (strs_at)
section
variable {prog : Program} {w : World} {A : Around} {E : Value → Shared → Prop} {s : Shared}
/-- set(a list of texts) -/
theorem call_setT {l : Addr} {its : Array Value} {xs : List Str} {Q : Value → Shared → Prop} (hh : A.handled = none) (hl : s.heap.IsList l its) (hi : StrsAre its.toList xs) (hb : its.size + 1 < scanBound)
    (fin : ∀ (g : Heap) (tk : Nat), g.SetOf (PySem.strKind prog w) s.heap.objs.size (fun y => (xs.take its.size).any (· == y)) (few xs its.size) → (∀ b o, b < s.heap.objs.size → s.heap.get? b = some o → g.get? b = some o) → Q (.ref s.heap.objs.size) { s with heap := g, toks := tk }) :
    wpAny (model prog w) A (call (.type "set") [.ref l]) Q E s := by
  obtain ⟨mc, mt, k1⟩ := PySem.F.called_set.mro
  have k2 := PySem.F.called_set.made
  have k3 := PySem.F.called_set.sub
  refine wpAny_call (codeAny_of_tree (by
    show wpAny _ _ (callAny (.type "set") _) _ _ _
    refine wpAny_pure ⟨Code.quiet_builtin _ (by decide +kernel), codeAny_builtin PySem.F.entry_type_call (by
      rw [Around.under_plain (weight_type_call_type "set" [.ref l] []) rfl]
      have k4 := PySem.F.called_set.notType
      have k5 := PySem.F.called_set.canCreate
      have k6 := PySem.F.typeCall_set_1 (.ref l)
      repeat any_goals first | assumption | wp_step
      refine codeAny_mono (code_set_new_1 (.ref l) (E := E) (Q₁ := fun v s1 => ∃ led : Bool, v = .ref s.heap.objs.size ∧ s1 = { s with heap := s.heap.push (freshS led) }) fun led => ⟨led, rfl, rfl⟩) fun r s1 q => ?_
      cases r with
      | error e => exact q
      | ok fl =>
        cases fl with
        | next => exact q.elim
        | brk => exact q.elim
        | cont => exact q.elim
        | ret v =>
          obtain ⟨led, rfl, rfl⟩ := q
          have dS : (s.heap.push (freshS led)).get? s.heap.objs.size = some (freshS led) := Heap.get?_push_size _ rfl
          have tS : Shared.TypeIs { s with heap := s.heap.push (freshS led) } (.ref s.heap.objs.size) "set" := ⟨_, dS, rfl⟩
          have k7 := PySem.F.called_set.init.lookup
          have k8 := PySem.F.called_set.init.bind (.ref s.heap.objs.size)
          repeat any_goals first | assumption | wp_step
          refine codeAny_mono (codeAny_call_builtin (R := wants (fun v s2 => v = .none ∧ ∃ g tk, s2 = { s with heap := g, toks := tk } ∧ g.SetOf (PySem.strKind prog w) s.heap.objs.size (fun y => (xs.take its.size).any (· == y)) (few xs its.size) ∧
              ∀ b o, b < s.heap.objs.size → s.heap.get? b = some o → g.get? b = some o) E) PySem.F.called_set.init.plain PySem.F.entry_set_init (check_set_init_1 tS ?_)) fun r2 s2 q2 => ?_
          · obtain ⟨⟨oc, od, dt, sl⟩, ol, cl, nn, dl⟩ := hl
            simp only at cl dl
            subst cl dl
            have ol2 : (s.heap.push (freshS led)).get? l = some { cls := .type "list", dict := od, data := .seq its nn, slots := sl } := Heap.get?_push_of_some _ ol
            have m1 := PySem.F.sub_list_set
            have m2 := PySem.F.sub_list_frozenset
            have m3 : (Value.type "list" == Value.type "dict") = false := by decide
            have ll : (s.heap.push (freshS led)).IsList l its := ⟨_, ol2, rfl, nn, rfl⟩
            unfold Builtin.«set.__init__» noKeywords Builtin.Frozenset.updateFrom
            generalize hPI : pyIter = PI
            wp_walk
            subst hPI
            have ls : l < s.heap.objs.size := Heap.lt_size ol
            have sz : (s.heap.push (freshS led)).objs.size = s.heap.objs.size + 1 := Heap.size_push ..
            have h3 : A.in1.in1.in1.handled = none := by simp [hh]
            have nI : l ≠ (s.heap.push (freshS led)).objs.size := by rw [sz]; exact Nat.ne_of_lt (Nat.lt_succ_of_lt ls)
            have nS : s.heap.objs.size ∉ [(s.heap.push (freshS led)).objs.size, l] := fun m => by
              rcases List.mem_cons.mp m with z | z
              · rw [sz] at z
                exact absurd z (Nat.ne_of_lt (Nat.lt_succ_self _))
              · exact absurd (List.mem_singleton.mp z) (Nat.ne_of_gt ls)
            have ln : xs.length = its.size := by rw [← StrsAre.len_eq hi, Array.length_toList]
            refine wpAny_pyIter_list ll (wpAny_bind (wpAny_runValue (loopT ((Walks.list h3 _ l nI its).toS) s.heap.objs.size nS xs ln (fun i v e => strs_at hi i v (by rw [Array.getElem?_toList]; exact e)) hb (its.size - 0) 0 _ (by omega) (Nat.zero_le _)
              ⟨⟨_, Heap.get?_push_size _ rfl, rfl, rfl⟩, ll.push _⟩ ?_ ?_)))
            · exact SetOf_congr ((PyProof.Rows.setObjOf_fresh (knd := PySem.strKind prog w) led).setOf (Heap.get?_push_of_some _ dS) (by unfold scanBound; omega)) (fun _ => rfl) rfl
            · rintro ⟨g, gn, dr, tk, os⟩ mv hD
              obtain rfl : gn = s.gens := mv.gens
              obtain rfl : dr = s.drawn := mv.drawn
              obtain rfl : os = s.os := mv.os
              show wpAny _ _ _ _ _ _
              refine wpAny_pure (by
                show wpAny _ _ (ret Value.none) _ _ _
                refine wpAny_pure ⟨rfl, g, tk, rfl, hD, fun b o lb e => mv.heap b o (fun m => ?_) (Heap.get?_push_of_some _ (Heap.get?_push_of_some _ e))⟩
                rcases List.mem_cons.mp m with z | z
                · exact absurd z (Nat.ne_of_lt lb)
                · have y := List.mem_singleton.mp z
                  rw [sz] at y
                  exact absurd y (Nat.ne_of_lt (Nat.lt_succ_of_lt lb)))
          · cases r2 with
            | error e => exact q2
            | ok f2 =>
              cases f2 with
              | next => exact q2.elim
              | brk => exact q2.elim
              | cont => exact q2.elim
              | ret v =>
                obtain ⟨rfl, g, tk, rfl, hD, kp⟩ := q2
                repeat any_goals first | assumption | wp_step
                exact fin g _ hD kp)⟩))
end
end OB
namespace OB
open PySem PySem.Spec PyProof.Rows L2
/-! ### lists and tuples alike; len(set(texts)) -/
theorem SqX.or {tp : Bool} {K : PySem.W.Frag} {H : Hp} {p : Addr} {xs : List V} (h : SqX tp K H p xs) : SqL K H p xs ∨ SqT K H p xs := by
  cases tp with
  | true => exact .inr h
  | false => exact .inl h
def mkX (tp : Bool) (xs : List V) : HO := if tp = true then .tup xs else .lst xs
theorem SqX.new {tp : Bool} {K : PySem.W.Frag} {H : Hp} {p : Addr} {xs : List V} : SqX tp K (upd H p (mkX tp xs)) p xs := by
  cases tp with
  | true => exact SqT.of upd_same
  | false => exact SqL.of upd_same
def rIxX (K : PySem.W.Frag) : R2 := fun x y H Q => ∃ tp p xs i v, x = .ref p ∧ y = .int i ∧ SqX tp K H p xs ∧ atI xs i = some v ∧ Q v H
theorem ix_X {X : Cx} : IxR X (rIxX X.K) := by
  intro value slice pins s σ H x y v u Q I rx ry h hs
  obtain ⟨tp, p, xs, i, z, rfl, rfl, hq, he, q⟩ := h
  cases tp with
  | true => exact ix_tup value slice pins s σ H _ _ v u Q I rx ry ⟨p, xs, i, z, rfl, rfl, hq, he, q⟩ hs
  | false => exact ix_list value slice pins s σ H _ _ v u Q I rx ry ⟨p, xs, i, z, rfl, rfl, hq, he, q⟩ hs
def rSlQ (K : PySem.W.Frag) : V → Option Int → Option Int → Hp → VK → Prop := fun x lo hi H Q => ∃ tp a xs, x = .ref a ∧ SqX tp K H a xs ∧ ¬ (HT.sIx xs.length 0 lo = 0 ∧ HT.sIx xs.length xs.length hi = xs.length) ∧ ∀ p, H p = none → Q (.ref p) (upd H p (mkX tp (cutV xs lo hi)))
theorem sl_X {X : Cx} : SlR X (rSlQ X.K) := by
  intro pins s σ H x v vl vu lo hi sl Q I rx hs pl pu h
  obtain ⟨tp, a, xs, rfl, hx, nw, q⟩ := h
  cases tp with
  | true => exact sl_tup pins s σ H _ v vl vu lo hi sl Q I rx hs pl pu ⟨a, xs, rfl, hx, nw, q⟩
  | false => exact sl_list pins s σ H _ v vl vu lo hi sl Q I rx hs pl pu ⟨a, xs, rfl, hx, q⟩
theorem truX {tp : Bool} {K : PySem.W.Frag} {H : Hp} {p : Addr} {xs : List V} (h : SqX tp K H p xs) : TruV K (.ref p) H (!xs.isEmpty) := by
  cases tp with
  | true => exact .inr (.inl ⟨xs, h, rfl⟩)
  | false => exact .inl ⟨xs, h, rfl⟩
theorem any_sqx {K : PySem.W.Frag} {H : Hp} {v : V} {k : Kd} (h : Any K H v k) (e : fSeq v k = true) : ∃ tp p xs, v = .ref p ∧ H p = some (mkX tp xs) ∧ SqX tp K H p xs := by
  cases h with
  | lst q => exact ⟨false, _, _, rfl, q, SqL.of q⟩
  | tup q => exact ⟨true, _, _, rfl, q, SqT.of q⟩
  | _ => cases e
def tLenT (K : PySem.W.Frag) (ta : TE) : TE := fun σ H Q => ta σ H fun x H1 => ∃ l, ∃ xs : List Str, x = .ref l ∧ SqL K H1 l (xs.map V.str) ∧ xs.length ≤ 1000 ∧ Q (.int (few xs xs.length : Nat)) H1
section
variable {X : Cx}
theorem pe_lenT {a : Expr} {ta : TE} {p p2 q pos : Pos} (hc : X.calm = true) (hg : Gl X "len") (hm : X.mg "len" = none) (hg2 : Gl X "set") (hm2 : X.mg "set" = none) (ha : PE X a ta)
    (na : starEach [a] X.env = (false, eval a X.env) :: starEach [] X.env := by rfl) : PE X (.Call (.Name "len" p) [.Call (.Name "set" p2) [a] [] q] [] pos) (tLenT X.K ta) := by
  refine ⟨fun pins s σ H Q I h => Call_ (ld_blt I hg hm boot_len (PyProof.Rows.callWith_builtin1 (PyProof.Rows.args_cons (Call_ (ld_blt I hg2 hm2 boot_set (PyProof.Rows.callWith_type1 (PyProof.Rows.args_cons
    (thn (ha.run pins s σ H _ I h) fun v s1 ⟨x, H1, I1, r1, q1⟩ => PyProof.Rows.args_nil ?_) na) na rfl))) rfl) rfl rfl))⟩
  obtain ⟨l, xs, rfl, hq, h1, q1⟩ := q1
  cases r1
  obtain ⟨its, r, pl, hz⟩ := I1.list hq
  have sz : its.toArray.size = xs.length := by rw [List.size_toArray, ← r.length, List.length_map]
  refine call_setT (I1.ok.hd hc) pl.isList (by simpa using strsAre_of r) (by rw [sz]; unfold scanBound; omega) fun g tk hS hk => PyProof.Rows.args_nil ?_
  rw [sz] at hS
  obtain ⟨o, es, ep, t, ho, hex, hd, _, _, _, hf, hn⟩ := hS
  have I2 : Inv X pins σ H1 { s1 with heap := g, toks := tk } := I1.kept fun b o e => hk b o (Heap.lt_size e) e
  have small := few_le xs xs.length
  exact call_len_set ho hex hd hf (by rw [hn]; unfold scanBound at *; omega) ⟨.int (few xs xs.length : Nat), H1, I2.tok _, ⟨_, by rw [hn]⟩, q1⟩
end
/-! ### when it is as many -/
theorem few_all {xs : List Str} : ∀ i, i ≤ xs.length → (few xs i = i ↔ (xs.take i).Nodup)
  | 0, _ => by simp [few]
  | i + 1, h => by
    have ih := few_all (xs := xs) i (by omega)
    have le := few_le xs i
    rw [take_more (by omega), List.nodup_append]
    unfold few
    by_cases m : (xs.take i).any (· == xs.getD i Str.empty) = true
    · rw [if_pos m]
      constructor
      · intro z
        omega
      · rintro ⟨_, _, z⟩
        obtain ⟨y, hy, e⟩ := List.any_eq_true.mp m
        exact absurd (eq_of_beq e) (z y hy _ (List.mem_singleton.mpr rfl))
    · rw [if_neg m]
      constructor
      · intro z
        refine ⟨ih.mp (by omega), by simp, fun a ha b hb e => m (List.any_eq_true.mpr ⟨a, ha, ?_⟩)⟩
        rw [List.mem_singleton.mp hb] at e
        exact beq_iff_eq.mpr e
      · intro z
        have y := ih.mpr z.1
        omega
theorem few_nodup (xs : List Str) : few xs xs.length = xs.length ↔ xs.Nodup := by
  have z := few_all (xs := xs) xs.length (Nat.le_refl _)
  rw [List.take_length] at z
  exact z
end OB
namespace OB
open PySem PySem.Spec PyProof.Rows L2
/-! ### the forms of deeds -/
abbrev sTold : Stmt := top 20
def formTab : List (Str × Str) := [("make", "an"), ("grow", "an"), ("move", "aa"), ("swap", "aa"), ("cut", "ana"), ("split", "anaa"), ("pour", "aa"), ("drop", "akn"), ("end", "a"), ("wait", "n")]
def formOf (z : Str) : Option Str := formTab.lookup z
def one (c : Nat) : Str := ⟨#[c]⟩
def partB (ss : List Str) (kd : Str) (v : V) : Bool := partOk ss kd v .non
theorem partB_eq (ss : List Str) (kd : Str) (v : V) (k : Kd) : partOk ss kd v k = partB ss kd v := by
  unfold partB partOk
  cases v <;> rfl
def adrs : List (Nat × V) → List Str
  | [] => []
  | p :: ps => match toTxt p.2 with
    | some s => if one p.1 = ("a" : Str) then s :: adrs ps else adrs ps
    | none => adrs ps
def deedB (ss : List Str) (xs : List V) : Bool := match xs with
  | [] => false
  | x :: ys => match toTxt x with
    | none => false
    | some z => match formOf z with
      | none => false
      | some f => decide (ys.length = f.cps.size) && ((f.cps.toList.zip ys).all fun p => partB ss (one p.1) p.2) && decide (adrs (f.cps.toList.zip ys)).Nodup
theorem adrs_snoc (ps : List (Nat × V)) (p : Nat × V) : adrs (ps ++ [p]) = adrs ps ++ adrs [p] := by
  induction ps with
  | nil => rfl
  | cons q ps ih =>
    show adrs (q :: (ps ++ [p])) = _
    unfold adrs
    cases toTxt q.2 with
    | none => exact ih
    | some s =>
      dsimp only
      by_cases e : one q.1 = ("a" : Str)
      · rw [if_pos e, if_pos e, ih]
        rfl
      · rw [if_neg e, if_neg e]
        exact ih
theorem adrs_len : ∀ ps : List (Nat × V), (adrs ps).length ≤ ps.length
  | [] => Nat.le_refl _
  | p :: ps => by
    have ih := adrs_len ps
    unfold adrs
    cases toTxt p.2 with
    | none => exact Nat.le_succ_of_le ih
    | some s =>
      dsimp only
      split
      · exact Nat.succ_le_succ ih
      · exact Nat.le_succ_of_le ih
theorem forms_small : ∀ z f, formOf z = some f → f.cps.size ≤ 4 := by
  intro z f h
  have all : ∀ p ∈ formTab, p.2.cps.size ≤ 4 := by decide +kernel
  unfold formOf at h
  have m : ∀ l : List (Str × Str), l.lookup z = some f → (z, f) ∈ l := fun l => by
    induction l with
    | nil => intro e; cases e
    | cons p l ih =>
      obtain ⟨a, b⟩ := p
      intro e
      rw [List.lookup_cons] at e
      by_cases q : (z == a) = true
      · rw [q] at e
        dsimp only at e
        rw [eq_of_beq q, Option.some.inj e]
        exact List.mem_cons_self ..
      · have q' : (z == a) = false := by simpa using q
        rw [q'] at e
        exact List.mem_cons_of_mem _ (ih e)
  exact all _ (m _ h)
structure FormsK (K : PySem.W.Frag) (w : World) (mg : Str → Option Value) (d : Addr) (es : Array DictEntry) (n : Nat) : Prop where
  g : mg "FORMS" = some (.ref d)
  D : KDict K w d es n
  at_ : ∀ z : Str, ∃ r, PySem.W.nsIn K d z = some r ∧ match formOf z with
    | some f => ∃ t, r = some (.str f t)
    | none => r = none
structure TxtF (mg : Str → Option Value) : Prop where
  zip : mg "zip" = none
  set : mg "set" = none
  dict : mg "dict" = none
  any : mg "any" = none
def spTold (K : PySem.W.Frag) : Sp := fun vs H Q _ => ∃ (a : Addr) (ss : List Str) (v : V) (k : Kd), vs = [.ref a, v] ∧ SqL K H a (ss.map V.str) ∧ Any K H v k ∧
  (fSeq v k = false → ∀ H', Same H H' → Q .non H') ∧
  (∀ tp p xs, v = .ref p → H p = some (mkX tp xs) → fSeq v k = true → AllAny K H xs ∧ xs.length < 1000 ∧ (deedB ss xs = false → ∀ H', Same H H' → Q .non H') ∧ (deedB ss xs = true → ∀ H' T, Same H H' → Q (.ref T) H'))
theorem str_of {v : V} {k : Kd} {K : PySem.W.Frag} {H : Hp} (a : Any K H v k) : (k.isStr = true ∧ ∃ s, v = .str s ∧ toTxt v = some s) ∨ (k.isStr = false ∧ toTxt v = none) := by
  cases a with
  | str h => exact .inl ⟨rfl, _, rfl, rfl⟩
  | _ => exact .inr ⟨rfl, rfl⟩
theorem zip_at {cs : List Nat} {ys : List V} {i : Nat} {c : Nat} {y : V} (h1 : cs[i]? = some c) (h2 : ys[i]? = some y) : (cs.zip ys)[i]? = some (c, y) := by
  rw [List.getElem?_zip_eq_some]
  exact ⟨h1, h2⟩
theorem tail_cut (x : V) (ys : List V) : cutV (x :: ys) (some 1) none = ys := by
  unfold cutV
  have e1 : HT.sIx (x :: ys).length 0 (some 1) = 1 := by
    have z := HT.sIx_nat (x :: ys).length 0 1
    rw [show ((1 : Int)) = ((1 : Nat) : Int) from rfl, z]
    simp
  rw [e1, HT.sIx_none]
  simp
end OB
namespace OB
open PySem PySem.Spec PyProof.Rows L2
theorem deedB_no {ss : List Str} {x : V} {ys : List V} (h : toTxt x = none) : deedB ss (x :: ys) = false := by simp only [deedB, h]
theorem deedB_none {ss : List Str} {z : Str} {ys : List V} (h : formOf z = none) : deedB ss (.str z :: ys) = false := by simp only [deedB, toTxt, h]
theorem deedB_some {ss : List Str} {z f : Str} {ys : List V} (h : formOf z = some f) : deedB ss (.str z :: ys) = (decide (ys.length = f.cps.size) && ((f.cps.toList.zip ys).all fun p => partB ss (one p.1) p.2) && decide (adrs (f.cps.toList.zip ys)).Nodup) := by simp only [deedB, toTxt, h]
theorem SqX.at {tp : Bool} {K : PySem.W.Frag} {H : Hp} {p : Addr} {xs : List V} (h : H p = some (mkX tp xs)) : SqX tp K H p xs := by
  cases tp with
  | true => exact SqT.of h
  | false => exact SqL.of h
theorem part_a {ss : List Str} {v : V} (h : partB ss "a" v = true) : ∃ s, v = .str s ∧ toTxt v = some s := by
  unfold partB partOk at h
  rw [if_pos rfl] at h
  cases v with
  | str s => exact ⟨s, rfl, rfl⟩
  | _ => cases h
end OB
namespace OB
open PySem PySem.Spec PyProof.Rows L2
section
variable {P : Program} {w : World} {K : PySem.W.Frag} {mg : Str → Option Value} {base : Heap}
theorem scTold : FnScope ["names", "thing", "form", "addresses", "kind", "part"] ["names", "thing"] (defScope sTold) := ⟨rfl, rfl, rfl, by decide +kernel, rfl, by decide +kernel, by decide +kernel⟩
theorem ok_told {f fL fP d : Addr} {fd fdL fdP : FuncData} {es : Array DictEntry} {n : Nat} (F : Fun K "told_deed" "told_deed" sTold f fd) (FL : Fun K "is_list" "is_list" sIsList fL fdL) (gL : mg "is_list" = some (.ref fL)) (T : TxtC mg) (TF : TxtF mg) (FK : FormsK K w mg d es n)
    (GP : FnOk P w K mg base CX0 3 fP fdP ["names", "kind", "part"] (spPart K)) (gP : mg "is_part" = some (.ref fP)) (kP : PySem.W.keepIn K (.ref fP) = true) (bP : Binds K fdP ["names", "kind", "part"] []) : FnOk P w K mg base CX0 4 f fd ["names", "thing"] (spTold K) := by
  have GL : FnOk P w K mg base CX0 1 fL fdL ["thing"] (spAsk K fSeq) := ok_isList FL T
  have bL : Binds K fdL ["thing"] [] := FL.binds fun _ _ _ _ _ _ us hl => match us, hl with | [_], _ => rfl
  refine F.ok scTold (fun vs H Q E h => ?_) (fun cdv A outer s H vs Q E hr h => ?_)
  · obtain ⟨a, ss, v, k, rfl, _⟩ := h
    rfl
  · obtain ⟨a, ss, v, k, rfl, hs, av, hno, hyes⟩ := h
    have nd := scTold.nd
    have hr1 := hr.mono (show 1 ≤ 3 by decide)
    refine ⟨_, pss_cons (ps_if (PW.pt (pw_or (pt_not (pt_val (pe_call GL hr1 (by rfl) gL FL.kp bL .nil pass0 (pa_cons (pv 1) pa_nil)))) (pw_or (pt_not (pt_truth (pv 1) (by intro _; rfl)))
        (pw_or (pt_not (pt_val (pe_callB call_isA (by rfl) T.isi bootIsi (pa_cons (pe_ix ix_X (pv 1) pe_int (fun _ _ => rfl)) (pa_cons (pe_bltn (v := .ty "str") (u := .type "str") (by rfl) T.str bStr rfl) pa_nil)))))
          (pw_or1 (pt_cmpR (op_notIn_kd FK.D) (pe_ix ix_X (pv 1) pe_int (fun _ _ => rfl)) (pe_glob (v := .ref d) (by rfl) FK.g rfl) (by rfl)))))))
        (pss_one (ps_ret pe_non)) pss_nil)
      (pss_cons (ps_set (i := 2) nd rfl (Or.inl rfl) (pe_ix ix_kdict (pe_glob (v := .ref d) (by rfl) FK.g rfl) (pe_ix ix_X (pv 1) pe_int (fun _ _ => rfl)) (fun _ _ => rfl)))
      (pss_cons (ps_if (pt_cmpR op_ne (pe_callB call_len_seq (by rfl) T.len PySem.boot_len (pa_cons (pv 1) pa_nil)) (pe_op op_add (pe_callB call_len_str (by rfl) T.len PySem.boot_len (pa_cons (pv 2) pa_nil)) pe_int) (nomark _)) (pss_one (ps_ret pe_non)) pss_nil)
      (pss_cons (ps_if (pt_not (pt_val (pe_callB (cr_all rfl) (by rfl) T.all (by decide +kernel) (pa_cons (pe_lc (own := [("kind", 4), ("part", 5)]) (g := gTup K 2 (gCons (gName 4) (gCons (gName 5) gNil))) (tt := tYes) rfl nd (pi_zipX (by rfl) TF.zip (pa_cons (pv 2) (pa_cons (pe_slice sl_X (pv 1) (po_some pe_int) po_none) pa_nil)))
            (blkOk_by (N := ["names", "thing", "form", "addresses", "kind", "part"]) (sc := defScope sTold) (by decide +kernel))
            (fun _ _ _ _ _ => pg_tup rfl (pgs_cons (pg_name (i := 4) nd rfl (Or.inl rfl)) (pgs_cons (pg_name (i := 5) nd rfl (Or.inl rfl)) pgs_nil))) (fun _ _ _ _ _ => pts_nil)
            (fun _ _ _ _ _ => pe_call GP hr (by rfl) gP kP bP .nil pass0 (pa_cons (pv 0) (pa_cons (pv 4) (pa_cons (pv 5) pa_nil))))) pa_nil)))) (pss_one (ps_ret pe_non)) pss_nil)
      (pss_cons (ps_setLc (i := 3) (own := [("kind", 4), ("part", 5)]) (g := gTup K 2 (gCons (gName 4) (gCons (gName 5) gNil))) rfl nd rfl rfl (sw_true rfl rfl rfl (by decide +kernel)) (pi_zipX (by rfl) TF.zip (pa_cons (pv 2) (pa_cons (pe_slice sl_X (pv 1) (po_some pe_int) po_none) pa_nil)))
            (blkOk_by (N := ["names", "thing", "form", "addresses", "kind", "part"]) (sc := defScope sTold) (by decide +kernel))
            (fun _ _ _ _ _ => pg_tup rfl (pgs_cons (pg_name (i := 4) nd rfl (Or.inl rfl)) (pgs_cons (pg_name (i := 5) nd rfl (Or.inl rfl)) pgs_nil))) (fun _ _ _ _ _ => pts_one (pt_cmpR op_eq (pv 4) pe_str (nomark _)))
            (fun _ _ _ _ _ => pv 5))
      (pss_cons (ps_if (pt_cmpR op_lt (pe_lenT rfl (by rfl) T.len (by rfl) TF.set (pv 3)) (pe_callB call_len_seq (by rfl) T.len PySem.boot_len (pa_cons (pv 3) pa_nil)) (nomark _)) (pss_one (ps_ret pe_non)) pss_nil)
      (pss_one (ps_ret (pe_callTy call_tuple_of (by rfl) T.tuple (by decide +kernel) (pa_cons (pv 1) pa_nil))))))))), ?_⟩
    refine ⟨_, rfl, v, k, rfl, av, fun H1 e1 => ⟨_, rfl, ?_⟩⟩
    cases hf : fSeq v k with
    | false => exact iteT (hno hf H1 e1)
    | true =>
      obtain ⟨tp, p, xs, rfl, hp, hx⟩ := any_sqx av hf
      obtain ⟨hA, hlen, hF, hT⟩ := hyes tp p xs rfl hp hf
      have hx1 := hx.same e1
      refine iteF ⟨_, rfl, _, truX hx1, ?_⟩
      cases xs with
      | nil => exact iteT (hF rfl H1 e1)
      | cons x ys =>
        obtain ⟨kx, ax⟩ := hA x (List.mem_cons_self ..)
        obtain ⟨t, S⟩ := (ax.same e1).says
        refine iteF ⟨_, rfl, tp, p, _, ((0 : Nat) : Int), x, rfl, rfl, hx1, atI_nat rfl, x, .ty "str", t, .type "str", _, rfl, .ty _, S.ty, S.str, _, rfl, ?_⟩
        rcases str_of ax with ⟨ks, z, rfl, tz⟩ | ⟨ks, tz⟩
        · rw [ks]
          obtain ⟨r, hr0, hfm⟩ := FK.at_ z
          refine iteF ⟨_, rfl, tp, p, _, ((0 : Nat) : Int), _, rfl, rfl, hx1, atI_nat rfl, z, r, rfl, rfl, hr0, _, rfl, ?_⟩
          cases hform : formOf z with
          | none =>
            rw [hform] at hfm
            obtain rfl : r = none := hfm
            exact iteT (hF (deedB_none hform) H1 e1)
          | some fm =>
            rw [hform] at hfm
            obtain ⟨tk, rfl⟩ := hfm
            have small := forms_small z fm hform
            have hB := deedB_some (ss := ss) (ys := ys) hform
            refine iteF ⟨_, rfl, tp, p, _, ((0 : Nat) : Int), _, rfl, rfl, hx1, atI_nat rfl, d, z, .str fm, rfl, rfl, ⟨es, n, _, FK.D.at_, FK.D.lit, hr0, ⟨tk, rfl⟩⟩, ?_⟩
            refine ⟨_, rfl, p, _, rfl, hx1.or, _, rfl, fm, rfl, ?_, (fm.length : Int), 1, rfl, rfl, rfl, _, rfl, ?_⟩
            · show fm.cps.size ≤ sizeLine
              rw [sizeLine_eq]
              omega
            have ei : (V.int (((V.str z :: ys).length : Nat) : Int) = V.int ((fm.length : Int) + 1)) ↔ ys.length = fm.cps.size := by
              constructor
              · intro q
                have q2 := V.int.inj q
                have q3 : ((ys.length + 1 : Nat) : Int) = (fm.cps.size : Int) + 1 := q2
                omega
              · intro q
                show V.int ((ys.length + 1 : Nat) : Int) = V.int ((fm.cps.size : Int) + 1)
                rw [q] <;> rfl
            refine ite2 (fun h => ?_) (fun h => ?_)
            · refine hF ?_ H1 e1
              rw [hB]
              have ne : ¬ ys.length = fm.cps.size := fun q => by
                rw [decide_eq_true (ei.mpr q)] at h
                cases h
              rw [decide_eq_false ne, Bool.false_and, Bool.false_and]
            · have hl : fm.cps.size = ys.length := by
                by_cases q : ys.length = fm.cps.size
                · exact q.symm
                · rw [decide_eq_false fun y => q (ei.mp y)] at h
                  exact absurd rfl h
              rw [decide_eq_true hl.symm, Bool.true_and] at hB
              have nw : ¬ (HT.sIx (V.str z :: ys).length 0 (some 1) = 0 ∧ HT.sIx (V.str z :: ys).length (V.str z :: ys).length none = (V.str z :: ys).length) := fun q => by
                have q1 := q.1
                rw [show ((1 : Int)) = ((1 : Nat) : Int) from rfl, HT.sIx_nat] at q1
                simp at q1
              generalize hps : fm.cps.toList.zip ys = ps at hB
              have at_ : ∀ {i : Nat} {c : Nat} {y : V}, fm.cps[i]? = some c → ys[i]? = some y → ps[i]? = some (c, y) := fun {i c y} q1 q2 => by
                rw [← hps]
                exact zip_at (by simpa using q1) q2
              have lps : ps.length = ys.length := by
                rw [← hps, List.length_zip]
                simp
                omega
              refine ⟨_, rfl, _, rfl, 1, rfl, tp, p, _, rfl, hx1, nw, fun R nR => ?_⟩
              rw [tail_cut]
              refine ⟨fm, R, ys, tp, rfl, SqX.new, fun D nD => ?_⟩
              have gR : (upd H1 R (mkX tp ys)) R = some (mkX tp ys) := upd_same
              have e2 : Same H (upd H1 R (mkX tp ys)) := e1.trans (Same.new nR)
              generalize upd H1 R (mkX tp ys) = H2 at nD gR e2
              have nD0 : H D = none := e2.free nD
              have RD : R ≠ D := ne_of_none gR nD
              refine lc_zipX hl (fun i G => (∀ b o, b ≠ D → H2 b = some o → G b = some o) ∧ G D = some (.lst ((ps.take i).map fun q => V.bl (partB ss (one q.1) q.2)))) ⟨fun b o nb e => by rw [upd_ne nb]; exact e, by rw [upd_same]; rfl⟩ (fun i G q => SqX.at (q.1 _ _ RD gR)) (fun i c y TT G hc hy ⟨k1, k2⟩ nT => ?_) (fun G ⟨k1, k2⟩ => ?_)
              · refine ⟨TT, _, rfl, SqT.of upd_same, rfl, .str ⟨#[c]⟩, _, rfl, y, _, rfl, rfl, rfl, ?_⟩
                dsimp only [tYes]
                rw [if_pos rfl]
                obtain ⟨ky, ay⟩ := hA y (List.mem_cons_of_mem _ (List.mem_of_getElem? hy))
                have eG : Same H (upd G TT (.tup [.str ⟨#[c]⟩, y])) := fun b o e => by
                  have z1 := k1 b o (ne_of_none e nD0) (e2 b o e)
                  rw [upd_ne (ne_of_none z1 nT)]
                  exact z1
                refine ⟨_, rfl, _, rfl, _, rfl, a, ss, one c, y, ky, rfl, eG.seq hs, ay.same eG, fun G2 e3 => ?_⟩
                refine ⟨_, e3 _ _ (Same.new nT _ _ k2), ?_, fun b o nb e => ?_, ?_⟩
                · rw [List.length_map, List.length_take, sizeLine_eq]
                  omega
                · rw [upd_ne nb]
                  exact e3 _ _ (Same.new nT _ _ (k1 b o nb e))
                · rw [upd_same, List.take_add_one, at_ hc hy, partB_eq, List.map_append]
                  rfl
              · rw [← lps, List.take_length] at k2
                refine ⟨D, ps.map fun q => partB ss (one q.1) q.2, rfl, SqL.of (by rw [k2, List.map_map]; rfl), _, rfl, ?_⟩
                have e4 : Same H G := fun b o e => k1 b o (ne_of_none e nD0) (e2 b o e)
                have eA : (ps.map fun q => partB ss (one q.1) q.2).all id = ps.all fun q => partB ss (one q.1) q.2 := by rw [List.all_map] <;> rfl
                rw [eA]
                cases hall : ps.all fun q => partB ss (one q.1) q.2 with
                | false =>
                  rw [hall] at hB
                  exact iteT (hF hB G e4)
                | true =>
                  rw [hall, Bool.true_and] at hB
                  have hx4 := hx.same e4
                  refine iteF ⟨_, rfl, _, rfl, 1, rfl, tp, p, _, rfl, hx4, nw, fun R2 nR2 => ?_⟩
                  rw [tail_cut]
                  refine ⟨fm, R2, ys, tp, rfl, SqX.new, fun D2 nD2 => ?_⟩
                  have gR2 : (upd G R2 (mkX tp ys)) R2 = some (mkX tp ys) := upd_same
                  have e5 : Same H (upd G R2 (mkX tp ys)) := e4.trans (Same.new nR2)
                  generalize upd G R2 (mkX tp ys) = H3 at nD2 gR2 e5
                  have nD20 : H D2 = none := e5.free nD2
                  have RD2 : R2 ≠ D2 := ne_of_none gR2 nD2
                  refine lc_zipX hl (fun i G => (∀ b o, b ≠ D2 → H3 b = some o → G b = some o) ∧ G D2 = some (.lst ((adrs (ps.take i)).map V.str))) ⟨fun b o nb e => by rw [upd_ne nb]; exact e, by rw [upd_same]; rfl⟩ (fun i G q => SqX.at (q.1 _ _ RD2 gR2)) (fun i c y TT G hc hy ⟨m1, m2⟩ nT => ?_) (fun G ⟨m1, m2⟩ => ?_)
                  · refine ⟨TT, _, rfl, SqT.of upd_same, rfl, .str ⟨#[c]⟩, _, rfl, y, _, rfl, rfl, rfl, ?_⟩
                    have okp : partB ss (one c) y = true := List.all_eq_true.mp hall _ (List.mem_of_getElem? (at_ hc hy))
                    refine ⟨_, rfl, rfl, _, rfl, ?_⟩
                    have next : ps.take (i + 1) = ps.take i ++ [(c, y)] := by
                      rw [List.take_add_one, at_ hc hy] <;> rfl
                    have keep : ∀ b o, b ≠ D2 → H3 b = some o → (upd G TT (.tup [.str ⟨#[c]⟩, y])) b = some o := fun b o nb e => Same.new nT _ _ (m1 b o nb e)
                    refine ite2 (fun h2 => ?_) (fun h2 => ?_)
                    · have ec : one c = ("a" : Str) := V.str.inj (of_decide_eq_true h2)
                      rw [ec] at okp
                      obtain ⟨sy, rfl, ty⟩ := part_a okp
                      refine ⟨_, rfl, _, Same.new nT _ _ m2, ?_, fun b o nb e => by rw [upd_ne nb]; exact keep b o nb e, ?_⟩
                      · have l1 := adrs_len (ps.take i)
                        rw [List.length_map, sizeLine_eq]
                        rw [List.length_take] at l1
                        omega
                      · have last : adrs [(c, V.str sy)] = [sy] := by
                          unfold adrs
                          rw [ty]
                          dsimp only
                          rw [if_pos ec] <;> rfl
                        rw [upd_same, next, adrs_snoc, last, List.map_append] <;> rfl
                    · have ec : one c ≠ ("a" : Str) := fun z => h2 (by rw [show (⟨#[c]⟩ : Str) = "a" from z]; exact decide_eq_true rfl)
                      have last : adrs [(c, y)] = [] := by
                        unfold adrs
                        cases toTxt y with
                        | none => rfl
                        | some sy =>
                          dsimp only
                          rw [if_neg ec] <;> rfl
                      rw [next, adrs_snoc, last, List.append_nil]
                      exact ⟨keep, Same.new nT _ _ m2⟩
                  · rw [← lps, List.take_length] at m2
                    have e6 : Same H G := fun b o e => m1 b o (ne_of_none e nD20) (e5 b o e)
                    have la := adrs_len ps
                    have qD : SqL K G D2 ((adrs ps).map V.str) := SqL.of m2
                    refine ⟨_, rfl, D2, adrs ps, rfl, qD, by omega, _, rfl, D2, _, rfl, .inl qD, _, _, rfl, rfl, _, rfl, ?_⟩
                    have fn := few_nodup (adrs ps)
                    have fl := few_le (adrs ps) (adrs ps).length
                    refine ite2 (fun h2 => ?_) (fun h2 => ?_)
                    · refine hF ?_ G e6
                      rw [hB]
                      refine decide_eq_false fun q => ?_
                      have z := of_decide_eq_true h2
                      rw [fn.mpr q, List.length_map] at z
                      exact absurd z (Int.lt_irrefl _)
                    · have nn : (adrs ps).Nodup := fn.mp (by
                        have z : ¬ (((few (adrs ps) (adrs ps).length : Nat) : Int) < (((adrs ps).map V.str).length : Nat)) := fun q => h2 (decide_eq_true q)
                        rw [List.length_map] at z
                        omega)
                      rw [decide_eq_true nn] at hB
                      have hx6 := hx.same e6
                      refine ⟨_, rfl, p, V.str z :: ys, rfl, ?_⟩
                      cases tp with
                      | true => exact .inr ⟨hx6, hT hB G p e6⟩
                      | false => exact .inl ⟨hx6, fun T2 nT2 => hT hB _ T2 (e6.trans (Same.new nT2))⟩
        · rw [ks]
          exact iteT (hF (deedB_no tz) H1 e1)
end
end OB
namespace OB
open PySem PySem.Spec PyProof.Rows L2
/-! ### a list or a tuple walked; a dict updated by a dict -/
def ItX (tp : Bool) (K : PySem.W.Frag) (a : Addr) : It := match tp with
  | true => Itt K a
  | false => Itl K a
def iX (K : PySem.W.Frag) (tl : TE) : TI := fun σ H R => tl σ H fun x H1 => ∃ tp a xs, x = .ref a ∧ SqX tp K H1 a xs ∧ R (ItX tp K a) H1
section
variable {X : Cx}
theorem pi_X {tg l : Expr} {tl : TE} (hl : PE X l tl) : PI X tg l (iX X.K tl) := by
  refine ⟨fun pins s σ H R I h => thn (hl.run pins s σ H _ I h) fun v s1 ⟨x, H1, I1, r1, q1⟩ => ?_⟩
  obtain ⟨tp, a, xs, rfl, hq, q⟩ := q1
  cases r1
  cases tp with
  | true =>
    obtain ⟨its, rv, p, hz⟩ := I1.tuple hq
    exact wpAny_pyIter_tuple (show s1.heap.IsTuple a its.toArray from p) (pi_one (tk := s1.toks) I1 _ (turn_tuple a _) ⟨_, Heap.get?_push_size _ rfl, rfl, rfl⟩ q)
  | false =>
    obtain ⟨its, rv, p, hz⟩ := I1.list hq
    exact wpAny_pyIter_list p.isList (pi_one (tk := s1.toks) I1 _ (turn_list a _) ⟨_, Heap.get?_push_size _ rfl, rfl, rfl⟩ q)
theorem lc_X {tp : Bool} {K : PySem.W.Frag} {a : Addr} {xs : List V} {g : TG} {tt : TT} {te : TE} {vs : List Nat} {σ : L2.St} {H1 : Hp} {D : Addr} {Qd : Hp → Prop} (Pv : Nat → Hp → Prop) (h0 : Pv 0 (upd H1 D (.lst []))) (hl : ∀ i H, Pv i H → SqX tp K H a xs)
    (hs : ∀ i x H, xs[i]? = some x → Pv i H → g x (wipe σ vs) H fun σ2 H2 => wipe σ2 vs = wipe σ vs ∧ tt σ2 H2 fun b H3 => if b = true then te σ2 H3 fun y H4 => ∃ acc, H4 D = some (.lst acc) ∧ acc.length < sizeLine ∧ Pv (i + 1) (upd H4 D (.lst (acc ++ [y]))) else Pv (i + 1) H3)
    (hd : ∀ H, Pv xs.length H → Qd H) : ∃ W : Nat → Nat → Hp → Prop, (∃ m, W 0 m (upd H1 D (.lst []))) ∧ ∀ i m H, W i m H → ((ItX tp K a).stop i H ∧ Qd H) ∨ ((ItX tp K a).go i H ∧ ∃ Nx : Hp → Prop, (∀ H', Nx H' → ∃ m', m' < m ∧ W (i + 1) m' H') ∧ ∀ x H', (ItX tp K a).yld i H x H' →
      g x (wipe σ vs) H' fun σ2 H2 => wipe σ2 vs = wipe σ vs ∧ tt σ2 H2 fun b H3 => if b = true then te σ2 H3 fun y H4 => ∃ acc, H4 D = some (.lst acc) ∧ acc.length < sizeLine ∧ Nx (upd H4 D (.lst (acc ++ [y]))) else Nx H3) := by
  cases tp with
  | true => exact lc_tup Pv h0 (fun i H _ q => hl i H q) hs hd
  | false => exact lc_list Pv h0 (fun i H _ q => hl i H q) hs hd
def tDUpd (td ty : TE) : TE := fun σ H Q => td σ H fun x H1 => ∃ a, x = .ref a ∧ IsD H1 a ∧ ty σ H1 fun y H2 => ∃ b kvs more, y = .ref b ∧ a ≠ b ∧ H2 a = some (.dK kvs) ∧ H2 b = some (.dK more) ∧ kvs.length + more.length ≤ 1000 ∧ Q .non (upd H2 a (.dK (mergeK kvs more)))
theorem pe_dupd {o e : Expr} {apos cpos : Pos} {td ty : TE} (ho : PE X o td) (he : PE X e ty) (m : M1 X o "update" apos e cpos) : PE X (.Call (.Attribute o "update" apos) [e] [] cpos) (tDUpd td ty) := by
  refine ⟨fun pins s σ H Q I h => wpAny_Call_method m.base m.few m.line PySem.F.plainAttrs_dict PySem.F.slot_dict_update PySem.F.type_dict_update (thn (ho.run pins s σ H _ I h) fun u s1 ⟨x, H1, I1, rx, a, ex, d, q1⟩ => ?_)⟩
  subst ex
  obtain rfl : u = Value.ref a := rx
  obtain ⟨t1, t2, _⟩ := isD_at I1 d
  refine ⟨t1, t2, by
    rw [m.trees]
    refine Calls.callWith_builtin rfl (Calls.evalArgs_plain (Calls.spliced_cons (thn (he.run pins s1 σ H1 _ I1 q1) fun iv s2 ⟨y, H2, I2, ry, b, kvs, more, ey, ne, ha, hb, hl, q2⟩ => Calls.spliced_nil ?_)))
    subst ey
    cases ry
    obtain ⟨z1, n1, vs, r1, d1⟩ := dk_of I2.hok ha
    obtain ⟨z2, n2, rs, r2, d2⟩ := dk_of I2.hok hb
    have l1 := r1.length
    have l2 := r2.length
    refine call_meetsIn PySem.F.slot_dict_update d1.typeIs PySem.F.entry_dict_update (PySem.F.args_dict_update_2 _ _) (meets_dict_update (mixKind X.prog X.w) a b ne n2) ⟨vs, rs, d1, d2, by rw [← l1, ← l2, sizeLine_eq]; omega, fun g dd _ sb => ?_⟩
    have lm := length_mergeK more kvs
    have he2 : ∃ q, g.get? a = some q := by
      obtain ⟨q, _, _, hq, _⟩ := dd
      exact ⟨q, hq⟩
    exact ⟨.non, _, d_write (t' := s2.toks) I2 (by rw [ha]; exact True.intro) sb he2 (dk_new (by rw [sizeLine_eq]; omega) n1 (KV.merge r2 r1) dd), rfl, q2⟩⟩
end
/-! ### is_deed -/
abbrev sIsDeed : Stmt := top 37
def spDeed (K : PySem.W.Frag) (C : Addr) : Sp := fun vs H Q _ => ∃ (o : Addr) (ss : List Str) (m : Int) (v : V) (k : Kd), vs = [.ref o, v] ∧ LandAt H C o (ss.map V.str) m ∧ Any K H v k ∧ (fSeq v k = false → ∀ H', Same H H' → Q (.bl false) H') ∧
  (∀ tp p xs, v = .ref p → H p = some (mkX tp xs) → fSeq v k = true → AllAny K H xs ∧ xs.length < 1000 ∧ ∀ H', Same H H' → Q (.bl (deedB ss xs)) H')
section
variable {P : Program} {w : World} {K : PySem.W.Frag} {mg : Str → Option Value} {base : Heap}
theorem scIsDeed : FnScope ["land", "thing"] ["land", "thing"] (defScope sIsDeed) := ⟨rfl, rfl, rfl, by decide +kernel, rfl, by decide +kernel, by decide +kernel⟩
theorem ok_isDeed {f fT fA C : Addr} {fd fdT fdA : FuncData} (F : Fun K "is_deed" "is_deed" sIsDeed f fd) (LC : LandC K C) (mA : Meth K C "addresses" fA) (GA : FnOk P w K mg base CX0 1 fA fdA ["self"] (spLandAdr C)) (bA : Binds K fdA ["self"] [])
    (GT : FnOk P w K mg base CX0 4 fT fdT ["names", "thing"] (spTold K)) (gT : mg "told_deed" = some (.ref fT)) (kT : PySem.W.keepIn K (.ref fT) = true) (bT : Binds K fdT ["names", "thing"] []) : FnOk P w K mg base CX0 5 f fd ["land", "thing"] (spDeed K C) := by
  refine F.ok scIsDeed (fun vs H Q E h => ?_) (fun cdv A outer s H vs Q E hr h => ?_)
  · obtain ⟨o, ss, m, v, k, rfl, _⟩ := h
    rfl
  · obtain ⟨o, ss, m, v, k, rfl, hL, av, hno, hyes⟩ := h
    refine ⟨_, pss_one (ps_ret (pe_cmpR op_notN (pe_call GT hr (by rfl) gT kT bT .nil pass0 (pa_cons (pe_meth0 (pv 0) LC.cl mA GA (hr.mono (by decide)) bA .nil pass0) (pa_cons (pv 1) pa_nil))) pe_non (nomark _))), ?_⟩
    obtain ⟨dx, T, h1, h2⟩ := id hL
    refine ⟨_, rfl, o, dx, _, rfl, h1, by rfl, o, ss.map V.str, m, rfl, hL, fun H1 l e1 nl gl => ?_⟩
    refine ⟨_, rfl, l, ss, v, k, rfl, SqL.of gl, av.same e1, fun hf H2 e2 => ⟨rfl, hno hf H2 (e1.trans e2)⟩, fun tp p xs ev hp hf => ?_⟩
    have hp0 : H p = some (mkX tp xs) := by
      obtain ⟨tp2, p2, xs2, ev2, hp2, _⟩ := any_sqx av hf
      rw [ev] at ev2
      cases ev2
      rw [e1 _ _ hp2] at hp
      rw [hp2, hp]
    obtain ⟨hA, hlen, q⟩ := hyes tp p xs ev hp0 hf
    exact ⟨fun x m => by
      obtain ⟨kx, ax⟩ := hA x m
      exact ⟨kx, ax.same e1⟩, hlen, fun hB H2 e2 => ⟨rfl, by
        have z := q H2 (e1.trans e2)
        rw [hB] at z
        exact z⟩, fun hB H2 T2 e2 => ⟨rfl, by
        have z := q H2 (e1.trans e2)
        rw [hB] at z
        exact z⟩⟩
end
end OB
namespace OB
open PySem PySem.Spec PyProof.Rows L2
/-! ### the law's forms against the program's -/
def formLTab : List (Str × Str) := [("make", "an"), ("grow", "an"), ("move", "aa"), ("swap", "aa"), ("cut", "ana"), ("split", "anaa"), ("pour", "aa"), ("drop", "azn"), ("end", "a"), ("wait", "n")]
def asKvs (l : List (Str × Str)) : List (Key × V) := l.map fun p => (Sum.inr p.1, V.str p.2)
theorem val_kvs (z : Str) : ∀ l : List (Str × Str), valV (asKvs l) (Sum.inr z) = (l.lookup z).map V.str
  | [] => rfl
  | p :: l => by
    have ih := val_kvs z l
    obtain ⟨x, y⟩ := p
    show valV ((Sum.inr x, V.str y) :: asKvs l) (Sum.inr z) = _
    rw [List.lookup_cons]
    by_cases e : z = x
    · subst e
      have q : (z == z) = true := beq_self_eq_true z
      rw [q]
      simp [valV]
    · have q : (z == x) = false := beq_eq_false_iff_ne.mpr e
      rw [q, ← ih]
      have e2 : ¬ (Sum.inr x : Key) = Sum.inr z := fun y => e (Sum.inr.inj y).symm
      simp [valV, e2]
def zk (c : Nat) : Nat := if c = 107 then 122 else c
def asL (f : Str) : Str := ⟨(f.cps.toList.map zk).toArray⟩
theorem tabs_like : formLTab = formTab.map fun p => (p.1, asL p.2) := by decide +kernel
theorem look_like (z : Str) : ∀ l : List (Str × Str), (l.map fun p => (p.1, asL p.2)).lookup z = (l.lookup z).map asL
  | [] => rfl
  | p :: l => by
    have ih := look_like z l
    obtain ⟨x, y⟩ := p
    show ((x, asL y) :: l.map fun p => (p.1, asL p.2)).lookup z = _
    rw [List.lookup_cons, List.lookup_cons, ih]
    cases (z == x) <;> rfl
theorem formL_eq (z : Str) : formLTab.lookup z = (formOf z).map asL := by
  rw [tabs_like]
  exact look_like z formTab
def kinds3 : List Nat := [97, 107, 110]
theorem look_mem {z f : Str} : ∀ l : List (Str × Str), l.lookup z = some f → (z, f) ∈ l
  | [], e => by cases e
  | p :: l, e => by
    obtain ⟨x, y⟩ := p
    rw [List.lookup_cons] at e
    cases q : (z == x) with
    | true =>
      rw [q] at e
      rw [eq_of_beq q, Option.some.inj e]
      exact List.mem_cons_self ..
    | false =>
      rw [q] at e
      exact List.mem_cons_of_mem _ (look_mem l e)
theorem form_signs {z f : Str} (h : formOf z = some f) : ∀ c ∈ f.cps.toList, c ∈ kinds3 := by
  have all : ∀ p ∈ formTab, ∀ c ∈ p.2.cps.toList, c ∈ kinds3 := by decide +kernel
  exact all _ (look_mem _ h)
theorem part_like (ss : List Str) (v : V) (k : Kd) {c : Nat} (h : c ∈ kinds3) : partZ ss (one (zk c)) v k = partB ss (one c) v := by
  have n1 : (one 107 : Str) ≠ "a" := by decide +kernel
  have n2 : (one 110 : Str) ≠ "a" := by decide +kernel
  have n3 : (one 110 : Str) ≠ "k" := by decide +kernel
  have n4 : (one 122 : Str) ≠ "a" := by decide +kernel
  have n5 : (one 110 : Str) ≠ "z" := by decide +kernel
  have e1 : (one 97 : Str) = "a" := by decide +kernel
  have e2 : (one 107 : Str) = "k" := by decide +kernel
  have e3 : (one 122 : Str) = "z" := by decide +kernel
  rcases (show c = 97 ∨ c = 107 ∨ c = 110 by simpa [kinds3] using h) with q | q | q
  · subst q
    rw [show zk 97 = 97 from rfl]
    unfold partB partOk partZ
    rw [if_pos e1, if_pos e1]
  · subst q
    rw [show zk 107 = 122 from rfl]
    unfold partB partOk partZ
    rw [if_neg n4, if_pos e3, if_neg n1, if_pos e2]
    cases v <;> rfl
  · subst q
    rw [show zk 110 = 110 from rfl]
    unfold partB partOk partZ
    rw [if_neg n2, if_neg n5, if_neg n2, if_neg n3]
    cases v <;> rfl
theorem parts_like (ss : List Str) : ∀ (cs : List Nat) (ys : List V), (∀ c ∈ cs, c ∈ kinds3) → (((cs.map zk).zip ys).all fun p => partZ ss (one p.1) p.2 .non) = ((cs.zip ys).all fun p => partB ss (one p.1) p.2)
  | [], _, _ => rfl
  | _ :: _, [], _ => rfl
  | c :: cs, y :: ys, h => by
    have ih := parts_like ss cs ys fun d m => h d (List.mem_cons_of_mem _ m)
    show (partZ ss (one (zk c)) y .non && ((cs.map zk).zip ys).all _) = (partB ss (one c) y && (cs.zip ys).all _)
    rw [ih, part_like ss y .non (h c (List.mem_cons_self ..))]
theorem adrs_txt (ss : List Str) : ∀ (cs : List Nat) (ys : List V), cs.length = ys.length → (∀ c ∈ cs, c ∈ kinds3) → ((cs.zip ys).all fun p => partB ss (one p.1) p.2) = true → adrs (cs.zip ys) = ys.filterMap toTxt
  | [], [], _, _, _ => rfl
  | c :: cs, y :: ys, hl, h, ha => by
    have ha2 : (partB ss (one c) y && (cs.zip ys).all fun p => partB ss (one p.1) p.2) = true := ha
    rw [Bool.and_eq_true] at ha2
    have ih := adrs_txt ss cs ys (Nat.succ.inj hl) (fun d m => h d (List.mem_cons_of_mem _ m)) ha2.2
    show adrs ((c, y) :: cs.zip ys) = _
    unfold adrs
    dsimp only
    rw [List.filterMap_cons]
    have n1 : (one 107 : Str) ≠ "a" := by decide +kernel
    have n2 : (one 110 : Str) ≠ "a" := by decide +kernel
    have e1 : (one 97 : Str) = "a" := by decide +kernel
    have p1 := ha2.1
    rcases (show c = 97 ∨ c = 107 ∨ c = 110 by simpa [kinds3] using h c (List.mem_cons_self ..)) with q | q | q
    · subst q
      rw [e1] at p1
      obtain ⟨s, _, ts⟩ := part_a p1
      rw [ts]
      dsimp only
      rw [if_pos e1, ih]
    · subst q
      have ty : toTxt y = none := by
        unfold partB partOk at p1
        rw [if_neg n1] at p1
        cases y with
        | str s => split at p1 <;> cases p1
        | _ => rfl
      rw [ty]
      exact ih
    · subst q
      have ty : toTxt y = none := by
        unfold partB partOk at p1
        rw [if_neg n2] at p1
        cases y with
        | str s => split at p1 <;> cases p1
        | _ => rfl
      rw [ty]
      exact ih
def forms7 : List (Str × Str) := [("make", "an"), ("grow", "an"), ("move", "aa"), ("swap", "aa"), ("cut", "ana"), ("split", "anaa"), ("pour", "aa")]
def forms3 : List (Str × Str) := [("drop", "azn"), ("end", "a"), ("wait", "n")]
theorem merged_forms : mergeK (mergeK [] (asKvs forms7)) (mergeK [] (asKvs forms3)) = asKvs formLTab := by
  with_unfolding_all rfl
end OB
namespace OB
open PySem PySem.Spec PyProof.Rows L2
/-! ### the law's look at deeds -/
abbrev sLDeed : Stmt := top 58
def spLDeed (K : PySem.W.Frag) : Sp := fun vs H Q _ => ∃ (a : Addr) (ss : List Str) (v : V) (k : Kd), vs = [.ref a, v] ∧ SqL K H a (ss.map V.str) ∧ Any K H v k ∧ (fSeq v k = false → ∀ H', Same H H' → Q (.bl false) H') ∧
  (∀ tp p xs, v = .ref p → H p = some (mkX tp xs) → fSeq v k = true → AllAny K H xs ∧ xs.length < 1000 ∧ ∀ H', Same H H' → Q (.bl (deedB ss xs)) H')
section
variable {P : Program} {w : World} {K : PySem.W.Frag} {mg : Str → Option Value} {base : Heap}
theorem scLDeed : FnScope ["names", "thing", "forms", "kinds", "some", "kind", "part"] ["names", "thing"] (defScope sLDeed) := ⟨rfl, rfl, rfl, by decide +kernel, rfl, by decide +kernel, by decide +kernel⟩
theorem ok_lDeed {f fP : Addr} {fd fdP : FuncData} (F : Fun K "_law_is_deed" "_law_is_deed" sLDeed f fd) (T : TxtC mg) (TF : TxtF mg) (FP : Fun K "_law_is_part" "_law_is_part" sLPart fP fdP) (gP : mg "_law_is_part" = some (.ref fP)) : FnOk P w K mg base CX0 2 f fd ["names", "thing"] (spLDeed K) := by
  have GP : FnOk P w K mg base CX0 1 fP fdP ["names", "kind", "part"] (spLPart K) := ok_lPart FP T
  have bP : Binds K fdP ["names", "kind", "part"] [] := FP.binds fun _ _ _ _ _ _ us hl => match us, hl with | [_, _, _], _ => rfl
  refine F.ok scLDeed (fun vs H Q E h => ?_) (fun cdv A outer s H vs Q E hr h => ?_)
  · obtain ⟨a, ss, v, k, rfl, _⟩ := h
    rfl
  · obtain ⟨a, ss, v, k, rfl, hs, av, hno, hyes⟩ := h
    have nd := scLDeed.nd
    have hu := hu_of hr
    refine ⟨_, pss_cons (ps_set (i := 2) nd rfl (Or.inl rfl) (pe_disp (pps_cons pe_str pe_str (pps_cons pe_str pe_str (pps_cons pe_str pe_str (pps_cons pe_str pe_str (pps_cons pe_str pe_str (pps_cons pe_str pe_str (pps_cons pe_str pe_str pps_nil))))))) (by rfl) (by rfl) (fun z => by cases z) (by decide)))
      (pss_cons (ps_expr (pe_dupd (pv 2) (pe_disp (pps_cons pe_str pe_str (pps_cons pe_str pe_str (pps_cons pe_str pe_str pps_nil))) (by rfl) (by rfl) (fun z => by cases z) (by decide)) ⟨rfl, rfl, rfl, rfl⟩))
      (pss_cons (ps_if (PW.pt (pw_or (pt_not (pt_val (pe_callB call_isAT (by rfl) T.isi bootIsi (pa_cons (pv 1) (pa_cons (pe_tup (pa_cons (pe_bltn (v := .ty "list") (u := .type "list") (by rfl) T.list bList rfl) (pa_cons (pe_bltn (v := .ty "tuple") (u := .type "tuple") (by rfl) T.tuple bTuple rfl) pa_nil))) pa_nil)))))
          (pw_or (pt_cmpR op_eq (pe_callB call_len_seq (by rfl) T.len PySem.boot_len (pa_cons (pv 1) pa_nil)) pe_int (nomark _))
          (pw_or1 (pt_not (pt_val (pe_callB call_isA (by rfl) T.isi bootIsi (pa_cons (pe_ix ix_X (pv 1) pe_int (fun _ _ => rfl)) (pa_cons (pe_bltn (v := .ty "str") (u := .type "str") (by rfl) T.str bStr rfl) pa_nil)))))))))
        (pss_one (ps_ret pe_bl)) pss_nil)
      (pss_cons (ps_set (i := 3) nd rfl (Or.inl rfl) (pe_dget1 hu (pv 2) (pe_ix ix_X (pv 1) pe_int (fun _ _ => rfl)) ⟨rfl, rfl, rfl, rfl⟩))
      (pss_cons (ps_if (PW.pt (pw_or (pt_cmpR op_isN (pv 3) pe_non (nomark _)) (pw_or1 (pt_cmpR op_ne (pe_callB call_len_seq (by rfl) T.len PySem.boot_len (pa_cons (pv 1) pa_nil)) (pe_op op_add (pe_callB call_len_str (by rfl) T.len PySem.boot_len (pa_cons (pv 3) pa_nil)) pe_int) (nomark _))))) (pss_one (ps_ret pe_bl)) pss_nil)
      (pss_cons (ps_if (pt_not (pt_val (pe_callB (cr_all rfl) (by rfl) T.all (by decide +kernel) (pa_cons (pe_lc (own := [("kind", 5), ("part", 6)]) (g := gTup K 2 (gCons (gName 5) (gCons (gName 6) gNil))) (tt := tYes) rfl nd (pi_zipX (by rfl) TF.zip (pa_cons (pv 3) (pa_cons (pe_slice sl_X (pv 1) (po_some pe_int) po_none) pa_nil)))
            (blkOk_by (N := ["names", "thing", "forms", "kinds", "some", "kind", "part"]) (sc := defScope sLDeed) (by decide +kernel))
            (fun _ _ _ _ _ => pg_tup rfl (pgs_cons (pg_name (i := 5) nd rfl (Or.inl rfl)) (pgs_cons (pg_name (i := 6) nd rfl (Or.inl rfl)) pgs_nil))) (fun _ _ _ _ _ => pts_nil)
            (fun _ _ _ _ _ => pe_call GP hr (by rfl) gP FP.kp bP .nil pass0 (pa_cons (pv 0) (pa_cons (pv 5) (pa_cons (pv 6) pa_nil))))) pa_nil)))) (pss_one (ps_ret pe_bl)) pss_nil)
      (pss_cons (ps_setLc (i := 4) (own := [("part", 6)]) (g := gName 6) rfl nd rfl rfl (sw_true rfl rfl rfl (by decide +kernel)) (pi_X (pe_slice sl_X (pv 1) (po_some pe_int) po_none))
            (blkOk_by (N := ["names", "thing", "forms", "kinds", "some", "kind", "part"]) (sc := defScope sLDeed) (by decide +kernel))
            (fun _ _ _ _ _ => pg_name (i := 6) nd rfl (Or.inl rfl)) (fun _ _ _ _ _ => pts_one (pt_val (pe_callB (r := rIsA K) call_isA (by rfl) T.isi bootIsi (pa_cons (pv 6) (pa_cons (pe_bltn (v := .ty "str") (u := .type "str") (by rfl) T.str bStr rfl) pa_nil)))))
            (fun _ _ _ _ _ => pv 6))
      (pss_one (ps_ret (pe_cmpR op_eq (pe_lenT rfl (by rfl) T.len (by rfl) TF.set (pv 4)) (pe_callB call_len_seq (by rfl) T.len PySem.boot_len (pa_cons (pv 4) pa_nil)) (nomark _))))))))))  , ?_⟩
    refine fun d1 nd1 => ⟨upd_same, asKvs forms7, rfl, by decide, ?_⟩
    have g1 : (upd (upd H d1 (.dK [])) d1 (.dK (mergeK [] (asKvs forms7)))) d1 = some (.dK (mergeK [] (asKvs forms7))) := upd_same
    have e1 : Same H (upd (upd H d1 (.dK [])) d1 (.dK (mergeK [] (asKvs forms7)))) := fun b o e => by
      rw [upd_ne (ne_of_none e nd1), upd_ne (ne_of_none e nd1)]
      exact e
    generalize upd (upd H d1 (.dK [])) d1 (.dK (mergeK [] (asKvs forms7))) = H1 at g1 e1
    refine ⟨_, rfl, d1, rfl, .inl ⟨_, .inl g1⟩, fun d2 nd2 => ⟨upd_same, asKvs forms3, rfl, by decide, ?_⟩⟩
    have d12 : d1 ≠ d2 := ne_of_none g1 nd2
    refine ⟨d2, _, _, rfl, d12, by rw [upd_ne d12, upd_ne d12]; exact g1, upd_same, by decide, ?_⟩
    rw [merged_forms]
    have g2 : (upd (upd (upd H1 d2 (.dK [])) d2 (.dK (mergeK [] (asKvs forms3)))) d1 (.dK (asKvs formLTab))) d1 = some (.dK (asKvs formLTab)) := upd_same
    have e2 : Same H (upd (upd (upd H1 d2 (.dK [])) d2 (.dK (mergeK [] (asKvs forms3)))) d1 (.dK (asKvs formLTab))) := fun b o e => by
      rw [upd_ne (ne_of_none e nd1), upd_ne (ne_of_none (e1 b o e) nd2), upd_ne (ne_of_none (e1 b o e) nd2)]
      exact e1 b o e
    show tSeq _ _ _ _ (upd (upd (upd H1 d2 (.dK [])) d2 (.dK (mergeK [] (asKvs forms3)))) d1 (.dK (asKvs formLTab)))
    generalize upd (upd (upd H1 d2 (.dK [])) d2 (.dK (mergeK [] (asKvs forms3)))) d1 (.dK (asKvs formLTab)) = H2 at g2 e2
    refine ⟨_, rfl, by show 2 ≤ sizeLine; decide, fun tt ntt => ?_⟩
    obtain ⟨t, S⟩ := ((av.same e2).same (Same.new (u := .tup [.ty "list", .ty "tuple"]) ntt)).says
    refine ⟨v, tt, _, t, _, _, rfl, upd_same, .cons (.ty _) (.cons (.ty _) .nil), S.ty, S.seq, _, rfl, ?_⟩
    have e3 : Same H (upd H2 tt (.tup [.ty "list", .ty "tuple"])) := e2.trans (Same.new ntt)
    have g3 : (upd H2 tt (.tup [.ty "list", .ty "tuple"])) d1 = some (.dK (asKvs formLTab)) := Same.new ntt _ _ g2
    generalize upd H2 tt (.tup [.ty "list", .ty "tuple"]) = H3 at e3 g3
    have hfk : (k.isLst || k.isTup) = fSeq v k := rfl
    rw [hfk]
    cases hf : fSeq v k with
    | false => exact iteT (hno hf H3 e3)
    | true =>
      obtain ⟨tp, p, xs, rfl, hp, hx⟩ := any_sqx av hf
      obtain ⟨hA, hlen, hQ⟩ := hyes tp p xs rfl hp hf
      have hx3 := hx.same e3
      refine iteF ⟨_, rfl, p, _, rfl, hx3.or, rfl, _, rfl, ?_⟩
      cases xs with
      | nil => exact iteT (hQ H3 e3)
      | cons x ys =>
        have nz : decide (V.int (((x :: ys).length : Nat) : Int) = V.int 0) = false := decide_eq_false fun q => by
          have q2 := V.int.inj q
          rw [List.length_cons] at q2
          omega
        rw [nz]
        obtain ⟨kx, ax⟩ := hA x (List.mem_cons_self ..)
        obtain ⟨t2, S2⟩ := (ax.same e3).says
        refine iteF ⟨_, rfl, tp, p, _, ((0 : Nat) : Int), x, rfl, rfl, hx3, atI_nat rfl, x, .ty "str", t2, .type "str", _, rfl, .ty _, S2.ty, S2.str, _, rfl, ?_⟩
        have fin0 : ∀ H', Same H H' → deedB ss (x :: ys) = false → Q (.bl false) H' := fun H' e q => by
          rw [← q]
          exact hQ H' e
        rcases str_of ax with ⟨ks, z, rfl, tz⟩ | ⟨ks, tz⟩
        · rw [ks]
          refine iteF ⟨_, rfl, d1, rfl, .inl ⟨_, .inl g3⟩, _, rfl, tp, p, _, ((0 : Nat) : Int), _, rfl, rfl, hx3, atI_nat rfl, _, DGet.k (k := Sum.inr z) g3, ?_⟩
          rw [val_kvs, formL_eq]
          cases hform : formOf z with
          | none =>
            exact ⟨_, rfl, rfl, _, rfl, iteT (fin0 H3 e3 (deedB_none hform))⟩
          | some fm =>
            have small := forms_small z fm hform
            have sg := form_signs hform
            have hB := deedB_some (ss := ss) (ys := ys) hform
            have lf : (asL fm).cps.size = fm.cps.size := by
              show ((fm.cps.toList.map zk).toArray).size = _
              simp
            refine ⟨_, rfl, rfl, _, rfl, ?_⟩
            rw [show decide ((Option.map V.str (Option.map asL (some fm))).getD V.non = V.non) = false from decide_eq_false fun q => by cases q]
            refine iteF ⟨_, rfl, p, _, rfl, hx3.or, _, rfl, asL fm, rfl, ?_, ((asL fm).length : Int), 1, rfl, rfl, rfl, _, rfl, ?_⟩
            · show (asL fm).cps.size ≤ sizeLine
              rw [sizeLine_eq, lf]
              omega
            have ei : (V.int (((V.str z :: ys).length : Nat) : Int) = V.int (((asL fm).length : Int) + 1)) ↔ ys.length = fm.cps.size := by
              have l2 : (asL fm).length = fm.cps.size := lf
              rw [l2]
              constructor
              · intro q
                have q2 := V.int.inj q
                have q3 : ((ys.length + 1 : Nat) : Int) = (fm.cps.size : Int) + 1 := q2
                omega
              · intro q
                show V.int ((ys.length + 1 : Nat) : Int) = V.int ((fm.cps.size : Int) + 1)
                rw [q] <;> rfl
            refine ite2 (fun h => ?_) (fun h => ?_)
            · refine fin0 H3 e3 ?_
              rw [hB]
              have ne : ¬ ys.length = fm.cps.size := fun q => by
                rw [decide_eq_true (ei.mpr q)] at h
                cases h
              rw [decide_eq_false ne, Bool.false_and, Bool.false_and]
            · have hl : fm.cps.size = ys.length := by
                by_cases q : ys.length = fm.cps.size
                · exact q.symm
                · rw [decide_eq_false fun y => q (ei.mp y)] at h
                  exact absurd rfl h
              rw [decide_eq_true hl.symm, Bool.true_and] at hB
              have nw : ¬ (HT.sIx (V.str z :: ys).length 0 (some 1) = 0 ∧ HT.sIx (V.str z :: ys).length (V.str z :: ys).length none = (V.str z :: ys).length) := fun q => by
                have q1 := q.1
                rw [show ((1 : Int)) = ((1 : Nat) : Int) from rfl, HT.sIx_nat] at q1
                simp at q1
              have likeP := parts_like ss fm.cps.toList ys sg
              have likeA := adrs_txt ss fm.cps.toList ys (by simpa using hl) sg
              have toL : (asL fm).cps.toList = fm.cps.toList.map zk := rfl
              rw [← likeP, ← toL] at hB
              rw [← likeP, ← toL] at likeA
              have hlL : (asL fm).cps.size = ys.length := lf.trans hl
              generalize hps : (asL fm).cps.toList.zip ys = ps at hB likeA
              have at_ : ∀ {i : Nat} {c : Nat} {y : V}, (asL fm).cps[i]? = some c → ys[i]? = some y → ps[i]? = some (c, y) := fun {i c y} q1 q2 => by
                rw [← hps]
                exact zip_at (by simpa using q1) q2
              have lps : ps.length = ys.length := by
                rw [← hps, List.length_zip, Array.length_toList]
                omega
              refine ⟨_, rfl, _, rfl, 1, rfl, tp, p, _, rfl, hx3, nw, fun R nR => ?_⟩
              rw [tail_cut]
              refine ⟨asL fm, R, ys, tp, rfl, SqX.new, fun D nD => ?_⟩
              have gR : (upd H3 R (mkX tp ys)) R = some (mkX tp ys) := upd_same
              have e4 : Same H (upd H3 R (mkX tp ys)) := e3.trans (Same.new nR)
              generalize upd H3 R (mkX tp ys) = H4 at nD gR e4
              have nD0 : H D = none := e4.free nD
              have RD : R ≠ D := ne_of_none gR nD
              refine lc_zipX hlL (fun i G => (∀ b o, b ≠ D → H4 b = some o → G b = some o) ∧ G D = some (.lst ((ps.take i).map fun q => V.bl (partZ ss (one q.1) q.2 .non)))) ⟨fun b o nb e => by rw [upd_ne nb]; exact e, by rw [upd_same]; rfl⟩ (fun i G q => SqX.at (q.1 _ _ RD gR)) (fun i c y TT G hc hy ⟨k1, k2⟩ nT => ?_) (fun G ⟨k1, k2⟩ => ?_)
              · refine ⟨TT, _, rfl, SqT.of upd_same, rfl, .str ⟨#[c]⟩, _, rfl, y, _, rfl, rfl, rfl, ?_⟩
                dsimp only [tYes]
                rw [if_pos rfl]
                obtain ⟨ky, ay⟩ := hA y (List.mem_cons_of_mem _ (List.mem_of_getElem? hy))
                have eG : Same H (upd G TT (.tup [.str ⟨#[c]⟩, y])) := fun b o e => by
                  have z1 := k1 b o (ne_of_none e nD0) (e4 b o e)
                  rw [upd_ne (ne_of_none z1 nT)]
                  exact z1
                refine ⟨_, rfl, _, rfl, _, rfl, a, ss, one c, y, ky, rfl, eG.seq hs, ay.same eG, ?_⟩
                have pk : partZ ss (one c) y ky = partZ ss (one c) y .non := by
                  unfold partZ
                  cases y <;> rfl
                refine ⟨_, Same.new nT _ _ k2, ?_, fun b o nb e => ?_, ?_⟩
                · rw [List.length_map, List.length_take, sizeLine_eq]
                  omega
                · rw [upd_ne nb]
                  exact Same.new nT _ _ (k1 b o nb e)
                · rw [upd_same, List.take_add_one, at_ hc hy, pk, List.map_append]
                  rfl
              · rw [← lps, List.take_length] at k2
                refine ⟨D, ps.map fun q => partZ ss (one q.1) q.2 .non, rfl, SqL.of (by rw [k2, List.map_map]; rfl), _, rfl, ?_⟩
                have e5 : Same H G := fun b o e => k1 b o (ne_of_none e nD0) (e4 b o e)
                have eA : (ps.map fun q => partZ ss (one q.1) q.2 .non).all id = ps.all fun q => partZ ss (one q.1) q.2 .non := by rw [List.all_map] <;> rfl
                rw [eA]
                cases hall : ps.all fun q => partZ ss (one q.1) q.2 .non with
                | false =>
                  rw [hall] at hB
                  exact iteT (fin0 G e5 hB)
                | true =>
                  rw [hall, Bool.true_and] at hB
                  have hx5 := hx.same e5
                  have adr := likeA hall
                  refine iteF ⟨_, rfl, 1, rfl, tp, p, _, rfl, hx5, nw, fun R2 nR2 => ?_⟩
                  rw [tail_cut]
                  refine ⟨tp, R2, ys, rfl, SqX.new, fun D2 nD2 => ?_⟩
                  have gR2 : (upd G R2 (mkX tp ys)) R2 = some (mkX tp ys) := upd_same
                  have e6 : Same H (upd G R2 (mkX tp ys)) := e5.trans (Same.new nR2)
                  generalize upd G R2 (mkX tp ys) = H5 at nD2 gR2 e6
                  have nD20 : H D2 = none := e6.free nD2
                  have RD2 : R2 ≠ D2 := ne_of_none gR2 nD2
                  refine lc_X (xs := ys) (fun i G => (∀ b o, b ≠ D2 → H5 b = some o → G b = some o) ∧ G D2 = some (.lst (((ys.take i).filterMap toTxt).map V.str))) ⟨fun b o nb e => by rw [upd_ne nb]; exact e, by rw [upd_same]; rfl⟩ (fun i G q => SqX.at (q.1 _ _ RD2 gR2)) (fun i y G hy ⟨m1, m2⟩ => ?_) (fun G ⟨m1, m2⟩ => ?_)
                  · obtain ⟨ky, ay⟩ := hA y (List.mem_cons_of_mem _ (List.mem_of_getElem? hy))
                    have eG : Same H G := fun b o e => m1 b o (ne_of_none e nD20) (e6 b o e)
                    obtain ⟨t3, S3⟩ := (ay.same eG).says
                    refine ⟨rfl, _, rfl, y, .ty "str", t3, .type "str", _, rfl, .ty _, S3.ty, S3.str, _, rfl, ?_⟩
                    have next : (ys.take (i + 1)).filterMap toTxt = (ys.take i).filterMap toTxt ++ [y].filterMap toTxt := by
                      rw [List.take_add_one, hy, List.filterMap_append] <;> rfl
                    rcases str_of ay with ⟨ks2, sy, rfl, ty⟩ | ⟨ks2, ty⟩
                    · rw [ks2]
                      have last : [V.str sy].filterMap toTxt = [sy] := by
                        rw [List.filterMap_cons, ty] <;> rfl
                      refine iteT ⟨_, rfl, _, m2, ?_, fun b o nb e => by rw [upd_ne nb]; exact m1 b o nb e, ?_⟩
                      · have l1 := List.length_filterMap_le toTxt (ys.take i)
                        rw [List.length_take] at l1
                        rw [List.length_map, sizeLine_eq]
                        rw [List.length_cons] at hlen
                        omega
                      · rw [upd_same, next, last, List.map_append] <;> rfl
                    · rw [ks2]
                      have last : [y].filterMap toTxt = [] := by
                        rw [List.filterMap_cons, ty] <;> rfl
                      refine iteF ⟨m1, ?_⟩
                      rw [next, last, List.append_nil]
                      exact m2
                  · rw [List.take_length] at m2
                    have e7 : Same H G := fun b o e => m1 b o (ne_of_none e nD20) (e6 b o e)
                    rw [← adr] at m2
                    rw [adr] at m2 hB
                    have la := List.length_filterMap_le toTxt ys
                    generalize ys.filterMap toTxt = zs at m2 la hB
                    have qD : SqL K G D2 (zs.map V.str) := SqL.of m2
                    rw [List.length_cons] at hlen
                    refine ⟨_, rfl, D2, zs, rfl, qD, by omega, _, rfl, D2, _, rfl, .inl qD, ?_⟩
                    have fn := few_nodup zs
                    have same : decide (V.int ((few zs zs.length : Nat) : Int) = V.int (((zs.map V.str).length : Nat) : Int)) = deedB ss (V.str z :: ys) := by
                      rw [hB, List.length_map]
                      refine decide_eq_decide.mpr ⟨fun q => fn.mp ?_, fun q => by rw [fn.mpr q]⟩
                      have q2 := V.int.inj q
                      omega
                    refine ⟨rfl, ?_⟩
                    have fin := hQ G e7
                    rw [← same] at fin
                    exact fin
        · rw [ks]
          exact iteT (fin0 H3 e3 (deedB_no tz))
end
end OB
namespace OB
open PySem PySem.Spec PyProof.Rows L2 RZ
/-! ### the law's comparison of what is found with what is due -/
abbrev sSame : Stmt := top 51
def ItzA (tp : Bool) (K : PySem.W.Frag) (a b : Addr) : It := match tp with
  | true => ItzT K a b
  | false => Itz K a b
theorem lc_zipA {tp : Bool} {K : PySem.W.Frag} {a b : Addr} {xs ys : List V} {g : TG} {tt : TT} {te : TE} {vs : List Nat} {σ : L2.St} {H1 : Hp} {D : Addr} {Qd : Hp → Prop} {H0 : Hp} (fix : SqX tp K H0 a xs) (hl : xs.length = ys.length) (Pv : Nat → Hp → Prop) (h0 : Pv 0 (upd H1 D (.lst []))) (hq : ∀ i H, Pv i H → SqX tp K H a xs ∧ SqX tp K H b ys)
    (hs : ∀ (i : Nat) (x y : V) (T : Addr) (H : Hp), xs[i]? = some x → ys[i]? = some y → Pv i H → H T = none → g (.ref T) (wipe σ vs) (upd H T (.tup [x, y])) fun σ2 H2 => wipe σ2 vs = wipe σ vs ∧ tt σ2 H2 fun k H3 =>
      if k = true then te σ2 H3 fun v H4 => ∃ acc, H4 D = some (.lst acc) ∧ acc.length < sizeLine ∧ Pv (i + 1) (upd H4 D (.lst (acc ++ [v]))) else Pv (i + 1) H3) (hd : ∀ H, Pv xs.length H → Qd H) :
    ∃ W : Nat → Nat → Hp → Prop, (∃ m, W 0 m (upd H1 D (.lst []))) ∧ ∀ i m H, W i m H →
      ((ItzA tp K a b).stop i H ∧ Qd H) ∨ ((ItzA tp K a b).go i H ∧ ∃ Nx : Hp → Prop, (∀ H', Nx H' → ∃ m', m' < m ∧ W (i + 1) m' H') ∧ ∀ v H', (ItzA tp K a b).yld i H v H' → g v (wipe σ vs) H' fun σ2 H2 => wipe σ2 vs = wipe σ vs ∧ tt σ2 H2 fun k H3 =>
        if k = true then te σ2 H3 fun v H4 => ∃ acc, H4 D = some (.lst acc) ∧ acc.length < sizeLine ∧ Nx (upd H4 D (.lst (acc ++ [v]))) else Nx H3) := by
  refine ⟨fun i m H => m = xs.length - i ∧ i ≤ xs.length ∧ Pv i H, ⟨xs.length, rfl, Nat.zero_le _, h0⟩, ?_⟩
  rintro i m H ⟨rfl, hi, p⟩
  obtain ⟨qx, qy⟩ := hq i H p
  by_cases hlt : i < xs.length
  · have hly : i < ys.length := by omega
    have next : ∀ H', Pv (i + 1) H' → ∃ m', m' < xs.length - i ∧ (m' = xs.length - (i + 1) ∧ i + 1 ≤ xs.length ∧ Pv (i + 1) H') := fun H' p' => ⟨xs.length - (i + 1), by omega, rfl, hlt, p'⟩
    cases tp with
    | true =>
      refine .inr ⟨⟨xs, ys, xs[i], ys[i], qx, qy, List.getElem?_eq_getElem hlt, List.getElem?_eq_getElem hly⟩, Pv (i + 1), next, fun v H' y => ?_⟩
      obtain ⟨T, c, w, rfl, hT, rfl, hx, hy⟩ := y
      exact hs i c w T H (hx xs qx) (hy ys qy) p hT
    | false =>
      refine .inr ⟨⟨xs, ys, xs[i], ys[i], qx, qy, List.getElem?_eq_getElem hlt, List.getElem?_eq_getElem hly⟩, Pv (i + 1), next, fun v H' y => ?_⟩
      obtain ⟨T, c, w, rfl, hT, rfl, hx, hy⟩ := y
      exact hs i c w T H (hx xs qx) (hy ys qy) p hT
  · have e : i = xs.length := by omega
    subst e
    cases tp with
    | true => exact .inl ⟨⟨xs, ys, qx, qy, .inl (Nat.le_refl _)⟩, hd H p⟩
    | false => exact .inl ⟨⟨xs, ys, qx, qy, .inl (Nat.le_refl _)⟩, hd H p⟩
theorem zip_pick {tp : Bool} {K : PySem.W.Frag} {H : Hp} {a b : Addr} {xs ys : List V} {R : It → Hp → Prop} (hx : SqX tp K H a xs) (hy : SqX tp K H b ys) (z : R (ItzA tp K a b) H) : (SqL K H a xs ∧ SqL K H b ys ∧ R (Itz K a b) H) ∨ (SqT K H a xs ∧ SqT K H b ys ∧ R (ItzT K a b) H) := by
  cases tp with
  | true => exact .inr ⟨hx, hy, z⟩
  | false => exact .inl ⟨hx, hy, z⟩
/-- alike, its parts being alike by D -/
inductive SameW (K : PySem.W.Frag) (C : Addr) (D : Hp → V → V → Prop) (H : Hp) : V → V → Prop where
  | non : SameW K C D H .non .non
  | bl (b : Bool) : SameW K C D H (.bl b) (.bl b)
  | int (i : Int) : SameW K C D H (.int i) (.int i)
  | str {x : Str} (h : x.length ≤ 100) : SameW K C D H (.str x) (.str x)
  | land {o : Addr} {ss : List Str} {m : Int} (h : LandAt H C o (ss.map V.str) m) (hs : ∀ s ∈ ss, PyData.canLay0 (.str s) = true) : SameW K C D H (.ref o) (.ref o)
  | dct {a b : Addr} (ha : H a = some (.dK [])) (hb : H b = some (.dK [])) (hd : ∀ (G : Hp) (x y : Addr), G x = some (.lst []) → G y = some (.lst []) → D G (.ref x) (.ref y)) : SameW K C D H (.ref a) (.ref b)
  | seq {tp : Bool} {a b : Addr} {xs ys : List V} (ha : H a = some (mkX tp xs)) (hb : H b = some (mkX tp ys)) (hl : xs.length < 1000) (hd : Paired (D H) xs ys) : SameW K C D H (.ref a) (.ref b)
def SameV (K : PySem.W.Frag) (C : Addr) : Nat → Hp → V → V → Prop
  | 0 => fun _ _ _ => False
  | d + 1 => SameW K C (SameV K C d)
theorem Paired.imp {α β : Type} {F G : α → β → Prop} (h : ∀ x y, F x y → G x y) : ∀ {xs : List α} {ys : List β}, Paired F xs ys → Paired G xs ys
  | _, _, .nil => .nil
  | _, _, .cons r t => .cons (h _ _ r) (Paired.imp h t)
theorem SameW.same {K : PySem.W.Frag} {C : Addr} {D : Hp → V → V → Prop} {H H' : Hp} {v w : V} (h : SameW K C D H v w) (e : Same H H') (st : ∀ x y, D H x y → D H' x y) : SameW K C D H' v w := by
  cases h with
  | non => exact .non
  | bl b => exact .bl b
  | int i => exact .int i
  | str q => exact .str q
  | land h hs => exact .land (h.same e) hs
  | dct ha hb hd => exact .dct (e _ _ ha) (e _ _ hb) hd
  | seq ha hb hl hd => exact .seq (e _ _ ha) (e _ _ hb) hl (Paired.imp st hd)
theorem SameV.same {K : PySem.W.Frag} {C : Addr} : ∀ (d : Nat) {H H' : Hp} {v w : V}, SameV K C d H v w → Same H H' → SameV K C d H' v w
  | 0, _, _, _, _, h, _ => h
  | d + 1, _, _, _, _, h, e => SameW.same h e fun _ _ q => SameV.same d q e
def spSame (D : Hp → V → V → Prop) : Sp := fun vs H Q _ => ∃ v w, vs = [v, w] ∧ D H v w ∧ ∀ H', Same H H' → Q (.bl true) H'
theorem Says6.seq3 {K : PySem.W.Frag} {H : Hp} {v : V} {k : Kd} {t : Value} (h : Says6 K H v k t) : PySem.W.kitAny K t [.type "list", .type "tuple", .type "dict"] = some (k.isLst || (k.isTup || k.isDct)) :=
  kitAny_cons h.list (fun e => by rw [e]; exact kitAny_cons h.tuple (fun e2 => by rw [e2]; exact kitAny_cons h.dict (fun e3 => by rw [e3]; rfl) fun e3 => by rw [e3]; rfl) fun e2 => by rw [e2]; rfl) fun e => by rw [e]; rfl
/-- what the class of lands says for == -/
structure LandE (K : PySem.W.Frag) (C fE : Addr) : Prop where
  own : OwnC K C
  eq : PySem.W.findIn K (.ref C) "__eq__" = some (some (.ref fE))
  fn : PySem.W.isFn K (.ref fE) = true
  nf : ∀ T ∈ ["NoneType", "int", "list", "dict", "function"], PySem.W.notFirst K C (.type T) = true
  nfC : PySem.W.notFirst K C (.ref C) = true
  kit : PySem.W.kitOne K (.ref C) (.ref C) = some true
theorem tyA_ins {K : PySem.W.Frag} {H : Hp} {a C dx : Addr} {fs : List (Str × V)} (e : H a = some (.ins C dx fs)) (o : OwnC K C) : TyA K H (.ref a) (.ref C) := .x (.base (.ins e o.cl o.ha o.hn o.htk o.hm))
end OB
namespace OB
open PySem PySem.Spec PyProof.Rows L2 RZ LiI
section
variable {P : Program} {w : World} {K : PySem.W.Frag} {mg : Str → Option Value} {base : Heap}
theorem scSame : FnScope ["found", "wanted", "mine", "theirs"] ["found", "wanted"] (defScope sSame) := ⟨rfl, rfl, rfl, by decide +kernel, rfl, by decide +kernel, by decide +kernel⟩
theorem ok_sameS {f fE C : Addr} {fd fdE : FuncData} {d : Nat} {D : Hp → V → V → Prop} (F : Fun K "_law_same" "_law_same" sSame f fd) (gF : mg "_law_same" = some (.ref f)) (T : TxtC mg) (TF : TxtF mg) (LE : LandE K C fE) (GE : FnOk P w K mg base CX0 1 fE fdE ["self", "other"] (spLandEq K C)) (bE : Binds K fdE ["self", "other"] [])
    (G : FnOk P w K mg base CX0 (d + 1) f fd ["found", "wanted"] (spSame D)) (bF : Binds K fd ["found", "wanted"] []) (dst : ∀ {H H' : Hp} {v w : V}, D H v w → Same H H' → D H' v w) : FnOk P w K mg base CX0 (d + 2) f fd ["found", "wanted"] (spSame (SameW K C D)) := by
  refine F.ok scSame (fun vs H Q E h => ?_) (fun cdv A outer s H vs Q E hr h => ?_)
  · obtain ⟨v, w, rfl, _⟩ := h
    rfl
  · obtain ⟨v, u, rfl, hw, q⟩ := h
    have nd := scSame.nd
    refine ⟨_, pss_cons (ps_if (pt_val (pe_callB call_isAT (by rfl) T.isi bootIsi (pa_cons (pv 1) (pa_cons (pe_tup (pa_cons (pe_bltn (v := .ty "list") (u := .type "list") (by rfl) T.list bList rfl) (pa_cons (pe_bltn (v := .ty "tuple") (u := .type "tuple") (by rfl) T.tuple bTuple rfl) pa_nil))) pa_nil))))
        (pss_cons (ps_if (PW.pt (pw_or (pt_cmpR op_ne (pe_callB call_isA (by rfl) T.isi bootIsi (pa_cons (pv 0) (pa_cons (pe_bltn (v := .ty "list") (u := .type "list") (by rfl) T.list bList rfl) pa_nil))) (pe_callB call_isA (by rfl) T.isi bootIsi (pa_cons (pv 1) (pa_cons (pe_bltn (v := .ty "list") (u := .type "list") (by rfl) T.list bList rfl) pa_nil))) (nomark _))
            (pw_or1 (pt_cmpR op_ne (pe_callB call_isA (by rfl) T.isi bootIsi (pa_cons (pv 0) (pa_cons (pe_bltn (v := .ty "tuple") (u := .type "tuple") (by rfl) T.tuple bTuple rfl) pa_nil))) (pe_callB call_isA (by rfl) T.isi bootIsi (pa_cons (pv 1) (pa_cons (pe_bltn (v := .ty "tuple") (u := .type "tuple") (by rfl) T.tuple bTuple rfl) pa_nil))) (nomark _)))))
          (pss_one (ps_ret pe_bl)) pss_nil)
        (pss_one (ps_ret (pe_and (pe_cmpR op_eq (pe_callB call_len_seq (by rfl) T.len PySem.boot_len (pa_cons (pv 0) pa_nil)) (pe_callB call_len_seq (by rfl) T.len PySem.boot_len (pa_cons (pv 1) pa_nil)) (nomark _))
          (pe_one (pe_callB (cr_all rfl) (by rfl) T.all (by decide +kernel) (pa_cons (pe_lc (own := [("mine", 2), ("theirs", 3)]) (g := gTup K 2 (gCons (gName 2) (gCons (gName 3) gNil))) (tt := tYes) rfl nd (pi_zipA (by rfl) TF.zip (pa_cons (pv 0) (pa_cons (pv 1) pa_nil)))
            (blkOk_by (N := ["found", "wanted", "mine", "theirs"]) (sc := defScope sSame) (by decide +kernel))
            (fun _ _ _ _ _ => pg_tup rfl (pgs_cons (pg_name (i := 2) nd rfl (Or.inl rfl)) (pgs_cons (pg_name (i := 3) nd rfl (Or.inl rfl)) pgs_nil))) (fun _ _ _ _ _ => pts_nil)
            (fun _ _ _ _ _ => pe_call G hr (by rfl) gF F.kp bF .nil pass0 (pa_cons (pv 2) (pa_cons (pv 3) pa_nil)))) pa_nil))))))) pss_nil)
      (pss_cons (ps_if (pt_val (pe_callB call_isA (by rfl) T.isi bootIsi (pa_cons (pv 1) (pa_cons (pe_bltn (v := .ty "dict") (u := .type "dict") (by rfl) TF.dict bDict rfl) pa_nil))))
        (pss_one (ps_ret (pe_and (pe_callB call_isA (by rfl) T.isi bootIsi (pa_cons (pv 0) (pa_cons (pe_bltn (v := .ty "dict") (u := .type "dict") (by rfl) TF.dict bDict rfl) pa_nil)))
          (pe_one (pe_call G hr (by rfl) gF F.kp bF .nil pass0 (pa_cons (pe_listItems rfl (pv 0) (by rfl) T.list (by decide +kernel)) (pa_cons (pe_listItems rfl (pv 1) (by rfl) T.list (by decide +kernel)) pa_nil))))))) pss_nil)
      (pss_cons (ps_if (PW.pt (pw_or (pt_val (pe_callB call_isA (by rfl) T.isi bootIsi (pa_cons (pv 1) (pa_cons (pe_bltn (v := .ty "bool") (u := .type "bool") (by rfl) T.bool bBool rfl) pa_nil)))) (pw_or1 (pt_val (pe_callB call_isA (by rfl) T.isi bootIsi (pa_cons (pv 0) (pa_cons (pe_bltn (v := .ty "bool") (u := .type "bool") (by rfl) T.bool bBool rfl) pa_nil)))))))
        (pss_one (ps_ret (pe_and (pe_callB call_isA (by rfl) T.isi bootIsi (pa_cons (pv 1) (pa_cons (pe_bltn (v := .ty "bool") (u := .type "bool") (by rfl) T.bool bBool rfl) pa_nil))) (pe_and (pe_callB call_isA (by rfl) T.isi bootIsi (pa_cons (pv 0) (pa_cons (pe_bltn (v := .ty "bool") (u := .type "bool") (by rfl) T.bool bBool rfl) pa_nil)))
          (pe_one (pe_cmpR op_eq (pv 0) (pv 1) (nomark _))))))) pss_nil)
      (pss_one (ps_ret (pe_and (pe_not (pe_callB call_isAT (by rfl) T.isi bootIsi (pa_cons (pv 0) (pa_cons (pe_tup (pa_cons (pe_bltn (v := .ty "list") (u := .type "list") (by rfl) T.list bList rfl) (pa_cons (pe_bltn (v := .ty "tuple") (u := .type "tuple") (by rfl) T.tuple bTuple rfl) (pa_cons (pe_bltn (v := .ty "dict") (u := .type "dict") (by rfl) TF.dict bDict rfl) pa_nil)))) pa_nil))))
        (pe_one (pe_cmpR (op_eq.or (op_eqO GE (hr.mono (Nat.succ_le_succ (Nat.zero_le d))) LE.eq LE.fn bE)) (pv 0) (pv 1) (nomark _)))))))), ?_⟩
    have e0 : Same H H := Same.refl H
    have key : (∃ k, Any K H v k ∧ Any K H u k ∧ k.isLst = false ∧ k.isTup = false ∧ k.isDct = false ∧ k.isBl = false ∧ ∀ G, Same H G → rEq v u G Q ∨ rEqO K C (spLandEq K C) v u G Q) ∨ (∃ b, v = .bl b ∧ u = .bl b) ∨
        (∃ a b, v = .ref a ∧ u = .ref b ∧ H a = some (.dK []) ∧ H b = some (.dK []) ∧ ∀ (G : Hp) (x y : Addr), G x = some (.lst []) → G y = some (.lst []) → D G (.ref x) (.ref y)) ∨
        (∃ (tp : Bool) (a b : Addr) (xs ys : List V), v = .ref a ∧ u = .ref b ∧ H a = some (mkX tp xs) ∧ H b = some (mkX tp ys) ∧ xs.length < 1000 ∧ Paired (D H) xs ys) := by
      cases hw with
      | non => exact .inl ⟨.non, .non, .non, rfl, rfl, rfl, rfl, fun G e => .inl ⟨rfl, by rw [decide_eq_true rfl]; exact q G e⟩⟩
      | int i => exact .inl ⟨.int, .int i, .int i, rfl, rfl, rfl, rfl, fun G e => .inl ⟨rfl, by rw [decide_eq_true rfl]; exact q G e⟩⟩
      | str hx => exact .inl ⟨.str, .str hx, .str hx, rfl, rfl, rfl, rfl, fun G e => .inl ⟨rfl, by rw [decide_eq_true rfl]; exact q G e⟩⟩
      | bl b => exact .inr (.inl ⟨b, rfl, rfl⟩)
      | @land o ss m h hs =>
        obtain ⟨dx, TT, h1, h2⟩ := id h
        refine .inl ⟨.ins, .ins h1 LE.own, .ins h1 LE.own, rfl, rfl, rfl, rfl, fun G e => .inr ⟨o, dx, _, .ref C, rfl, e _ _ h1, tyA_ins (e _ _ h1) LE.own, LE.nfC, o, ss, m, .ref o, .ref C, rfl, h.same e, hs, tyA_ins (e _ _ h1) LE.own, .inl ⟨o, ss, m, rfl, h.same e, hs, LE.kit, _, rfl, ?_⟩⟩⟩
        rw [decide_eq_true ⟨rfl, rfl⟩]
        exact q G e
      | dct ha hb hd => exact .inr (.inr (.inl ⟨_, _, rfl, rfl, ha, hb, hd⟩))
      | seq ha hb hl hd => exact .inr (.inr (.inr ⟨_, _, _, _, _, rfl, rfl, ha, hb, hl, hd⟩))
    refine ⟨_, rfl, by show 2 ≤ sizeLine; decide, fun tt ntt => ?_⟩
    have e1 : Same H (upd H tt (.tup [.ty "list", .ty "tuple"])) := Same.new ntt
    have g1 : (upd H tt (.tup [.ty "list", .ty "tuple"])) tt = some (.tup [.ty "list", .ty "tuple"]) := upd_same
    generalize upd H tt (.tup [.ty "list", .ty "tuple"]) = H1 at e1 g1 ⊢
    rcases key with ⟨k, av, au, k1, k2, k3, k4, fin⟩ | ⟨b, rfl, rfl⟩ | ⟨a, b, rfl, rfl, ha, hb, hd⟩ | ⟨tp, a, b, xs, ys, rfl, rfl, ha, hb, hl, hd⟩
    · obtain ⟨tu, U⟩ := (au.same e1).says
      obtain ⟨tv, W⟩ := (av.same e1).says
      refine ⟨u, tt, _, tu, _, _, rfl, g1, .cons (.ty _) (.cons (.ty _) .nil), U.ty, U.seq, _, rfl, ?_⟩
      rw [k1, k2]
      refine iteF ⟨_, rfl, u, .ty "dict", tu, .type "dict", _, rfl, .ty _, U.ty, U.dict, _, rfl, ?_⟩
      rw [k3]
      refine iteF ⟨_, rfl, u, .ty "bool", tu, .type "bool", _, rfl, .ty _, U.ty, U.bool, _, rfl, ?_⟩
      rw [k4]
      refine iteF ⟨_, rfl, v, .ty "bool", tv, .type "bool", _, rfl, .ty _, W.ty, W.bool, _, rfl, ?_⟩
      rw [k4]
      refine iteF ⟨_, rfl, by show 3 ≤ sizeLine; decide, fun t3 n3 => ?_⟩
      have e2 : Same H (upd H1 t3 (.tup [.ty "list", .ty "tuple", .ty "dict"])) := e1.trans (Same.new n3)
      obtain ⟨tw, W2⟩ := (av.same e2).says
      refine ⟨v, t3, _, tw, _, _, rfl, upd_same, .cons (.ty _) (.cons (.ty _) (.cons (.ty _) .nil)), W2.ty, W2.seq3, _, rfl, _, rfl, ?_⟩
      rw [k1, k2, k3]
      exact iteT ⟨_, rfl, _, rfl, fin _ e2⟩
    · have au : Any K H (.bl b) .bl := .bl b
      obtain ⟨tu, U⟩ := (au.same e1).says
      refine ⟨_, tt, _, tu, _, _, rfl, g1, .cons (.ty _) (.cons (.ty _) .nil), U.ty, U.seq, _, rfl, ?_⟩
      refine iteF ⟨_, rfl, _, .ty "dict", tu, .type "dict", _, rfl, .ty _, U.ty, U.dict, _, rfl, ?_⟩
      refine iteF ⟨_, rfl, _, .ty "bool", tu, .type "bool", _, rfl, .ty _, U.ty, U.bool, _, rfl, ?_⟩
      refine iteT ⟨_, rfl, _, .ty "bool", tu, .type "bool", _, rfl, .ty _, U.ty, U.bool, _, rfl, ?_⟩
      refine iteT ⟨_, rfl, _, .ty "bool", tu, .type "bool", _, rfl, .ty _, U.ty, U.bool, _, rfl, ?_⟩
      refine iteT ⟨_, rfl, _, rfl, rfl, ?_⟩
      rw [decide_eq_true rfl]
      exact q H1 e1
    · have au : Any K H (.ref b) .dct := .dct hb
      have av : Any K H (.ref a) .dct := .dct ha
      obtain ⟨tu, U⟩ := (au.same e1).says
      obtain ⟨tv, W⟩ := (av.same e1).says
      refine ⟨_, tt, _, tu, _, _, rfl, g1, .cons (.ty _) (.cons (.ty _) .nil), U.ty, U.seq, _, rfl, ?_⟩
      refine iteF ⟨_, rfl, _, .ty "dict", tu, .type "dict", _, rfl, .ty _, U.ty, U.dict, _, rfl, ?_⟩
      refine iteT ⟨_, rfl, _, .ty "dict", tv, .type "dict", _, rfl, .ty _, W.ty, W.dict, _, rfl, ?_⟩
      refine iteT ⟨_, rfl, a, [], rfl, e1 _ _ ha, fun H2 p ts e2 np _ _ gp pr => ⟨_, rfl, b, [], rfl, e2 _ _ (e1 _ _ hb), fun H3 p2 ts2 e3 np2 _ _ gp2 pr2 => ?_⟩⟩
      cases pr
      cases pr2
      exact ⟨_, _, rfl, hd H3 p p2 (e3 _ _ gp) gp2, fun H4 e4 => q H4 (((e1.trans e2).trans e3).trans e4)⟩
    · have au : Any K H (.ref b) (if tp = true then .tup else .lst) := by
        cases tp with
        | true => exact .tup hb
        | false => exact .lst hb
      have av : Any K H (.ref a) (if tp = true then .tup else .lst) := by
        cases tp with
        | true => exact .tup ha
        | false => exact .lst ha
      obtain ⟨tu, U⟩ := (au.same e1).says
      obtain ⟨tv, W⟩ := (av.same e1).says
      have k1 : ((if tp = true then Kd.tup else Kd.lst).isLst || (if tp = true then Kd.tup else Kd.lst).isTup) = true := by cases tp <;> rfl
      refine ⟨_, tt, _, tu, _, _, rfl, g1, .cons (.ty _) (.cons (.ty _) .nil), U.ty, U.seq, _, rfl, ?_⟩
      rw [k1]
      refine iteT ⟨_, rfl, _, .ty "list", tv, .type "list", _, rfl, .ty _, W.ty, W.list, _, rfl, _, .ty "list", tu, .type "list", _, rfl, .ty _, U.ty, U.list, rfl, _, rfl, ?_⟩
      rw [decide_eq_true rfl]
      refine iteF ⟨_, rfl, _, .ty "tuple", tv, .type "tuple", _, rfl, .ty _, W.ty, W.tuple, _, rfl, _, .ty "tuple", tu, .type "tuple", _, rfl, .ty _, U.ty, U.tuple, rfl, _, rfl, ?_⟩
      rw [decide_eq_true rfl]
      have hxa : SqX tp K H1 a xs := SqX.at (e1 _ _ ha)
      have hxb : SqX tp K H1 b ys := SqX.at (e1 _ _ hb)
      have hlen := hd.length
      refine iteF ⟨_, rfl, a, xs, rfl, hxa.or, _, rfl, b, ys, rfl, hxb.or, rfl, _, rfl, ?_⟩
      rw [hlen, decide_eq_true rfl]
      refine iteT ⟨_, rfl, _, rfl, a, b, xs, ys, rfl, ?_⟩
      cases tp
      all_goals first | refine .inl ⟨hxa, hxb, ?_⟩ | refine .inr ⟨hxa, hxb, ?_⟩
      all_goals
        intro D2 nD
        have nD0 : H D2 = none := e1.free nD
        refine lc_zipA hxa hlen (fun i G => (∀ c o, c ≠ D2 → H1 c = some o → G c = some o) ∧ G D2 = some (.lst ((xs.take i).map fun _ => V.bl true))) ⟨fun c o nb e => by rw [upd_ne nb]; exact e, by rw [upd_same]; rfl⟩ (fun i G q => ?_) (fun i x y TT G hx hy ⟨k1, k2⟩ nT => ?_) (fun G ⟨k1, k2⟩ => ?_)
        · have eG : Same H G := fun c o e => q.1 c o (ne_of_none e nD0) (e1 _ _ e)
          exact ⟨SqX.at (eG _ _ ha), SqX.at (eG _ _ hb)⟩
        · refine ⟨TT, _, rfl, SqT.of upd_same, rfl, x, _, rfl, y, _, rfl, rfl, rfl, ?_⟩
          dsimp only [tYes]
          rw [if_pos rfl]
          obtain ⟨y2, hy2, dd⟩ := L2.paired_get hd hx
          rw [hy] at hy2
          cases hy2
          have eG : Same H (upd G TT (.tup [x, y])) := fun c o e => by
            have z1 := k1 c o (ne_of_none e nD0) (e1 _ _ e)
            rw [upd_ne (ne_of_none z1 nT)]
            exact z1
          refine ⟨_, rfl, _, rfl, x, y, rfl, dst dd eG, fun G2 e2 => ?_⟩
          refine ⟨_, e2 _ _ (Same.new nT _ _ k2), ?_, fun c o nb e => ?_, ?_⟩
          · rw [List.length_map, List.length_take, sizeLine_eq]
            omega
          · rw [upd_ne nb]
            exact e2 _ _ (Same.new nT _ _ (k1 c o nb e))
          · rw [upd_same, List.take_add_one, hx, List.map_append]
            rfl
        · rw [List.take_length] at k2
          have e2 : Same H G := fun c o e => k1 c o (ne_of_none e nD0) (e1 _ _ e)
          refine ⟨D2, xs.map fun _ => true, rfl, SqL.of (by rw [k2, List.map_map]; rfl), ?_⟩
          have all : (xs.map fun _ => true).all id = true := by
            rw [List.all_map]
            exact List.all_eq_true.mpr fun _ _ => rfl
          rw [all]
          exact q G e2
/-- every depth -/
theorem ok_same {f fE C : Addr} {fd fdE : FuncData} (F : Fun K "_law_same" "_law_same" sSame f fd) (gF : mg "_law_same" = some (.ref f)) (T : TxtC mg) (TF : TxtF mg) (LE : LandE K C fE) (GE : FnOk P w K mg base CX0 1 fE fdE ["self", "other"] (spLandEq K C)) (bE : Binds K fdE ["self", "other"] [])
    (bF : Binds K fd ["found", "wanted"] []) : ∀ d, FnOk P w K mg base CX0 (d + 1) f fd ["found", "wanted"] (spSame (SameV K C d))
  | 0 => F.ok scSame (fun vs H Q E h => by
      obtain ⟨_, _, _, z, _⟩ := h
      exact z.elim) (fun cdv A outer s H vs Q E hr h => by
      obtain ⟨_, _, _, z, _⟩ := h
      exact z.elim)
  | d + 1 => ok_sameS F gF T TF LE GE bE (ok_same F gF T TF LE GE bE bF d) bF fun h e => SameV.same d h e
end
end OB
namespace OB
open PySem PySem.Spec PyProof.Rows L2
/-! ### drawn deeds -/
abbrev sSAny : Stmt := top 54
def words10 : List Str := ["make", "grow", "move", "swap", "cut", "split", "pour", "drop", "end", "wait"]
def odd5 : List Str := ["", "1", "nobody", "mend", "MAKE"]
def texts : List Str := seven ++ words10 ++ odd5
def Flat (x : V) : Prop := (∃ s, x = .str s ∧ s ∈ texts) ∨ ∃ i : Int, x = .int i ∧ i.natAbs ≤ 10 ^ 15
theorem texts_short : ∀ s ∈ texts, s.length ≤ 100 := by decide +kernel
theorem Flat.any {K : PySem.W.Frag} {H : Hp} {x : V} (h : Flat x) : ∃ k, Any K H x k := by
  rcases h with ⟨s, rfl, m⟩ | ⟨i, rfl, _⟩
  · exact ⟨.str, .str (texts_short s m)⟩
  · exact ⟨.int, .int i⟩
/-- each entry's value is a new tuple of such -/
def GoodK (G : Hp) (kvs : List (Key × V)) : Prop := ∀ kv ∈ kvs, ∃ T xs, kv.2 = V.ref T ∧ G T = some (.tup xs) ∧ (∀ x ∈ xs, Flat x) ∧ 1 ≤ xs.length ∧ xs.length ≤ 4
theorem GoodK.same {G G' : Hp} {kvs : List (Key × V)} (h : GoodK G kvs) (e : Same G G') : GoodK G' kvs := fun kv m => by
  obtain ⟨T, xs, q1, q2, q3⟩ := h kv m
  exact ⟨T, xs, q1, e _ _ q2, q3⟩
theorem GoodK.nil {G : Hp} : GoodK G [] := fun kv m => by cases m
theorem GoodK.snoc {G : Hp} {kvs : List (Key × V)} {k : Key} {T : Addr} {xs : List V} (h : GoodK G kvs) (n : G T = none) (f : ∀ x ∈ xs, Flat x) (l1 : 1 ≤ xs.length) (l2 : xs.length ≤ 4) : GoodK (upd G T (.tup xs)) (kvs ++ [(k, .ref T)]) := fun kv m => by
  rcases List.mem_append.mp m with z | z
  · exact h.same (Same.new n) kv z
  · rw [List.mem_singleton.mp z]
    exact ⟨T, xs, rfl, upd_same, f, l1, l2⟩
theorem val_mem (k : Key) : ∀ kvs : List (Key × V), k ∈ kvs.map (·.1) → ∃ kv ∈ kvs, valV kvs k = some kv.2
  | [], m => by cases m
  | p :: kvs, m => by
    by_cases e : p.1 = k
    · exact ⟨p, List.mem_cons_self .., valV_pos e⟩
    · have m2 : k ∈ kvs.map (·.1) := by
        rcases List.mem_cons.mp m with z | z
        · exact absurd z.symm e
        · exact z
      obtain ⟨kv, h1, h2⟩ := val_mem k kvs m2
      exact ⟨kv, List.mem_cons_of_mem _ h1, by rw [valV_neg e]; exact h2⟩
def kv6 (v1 v2 v3 v4 v5 v6 : V) : List (Key × V) := [(Sum.inr "make", v1), (Sum.inr "grow", v2), (Sum.inr "move", v3), (Sum.inr "swap", v4), (Sum.inr "cut", v5), (Sum.inr "split", v6)]
def kv4 (v1 v2 v3 v4 : V) : List (Key × V) := [(Sum.inr "pour", v1), (Sum.inr "drop", v2), (Sum.inr "end", v3), (Sum.inr "wait", v4)]
theorem merge10 (v1 v2 v3 v4 v5 v6 u1 u2 u3 u4 : V) : mergeK (mergeK [] (kv6 v1 v2 v3 v4 v5 v6)) (mergeK [] (kv4 u1 u2 u3 u4)) = kv6 v1 v2 v3 v4 v5 v6 ++ kv4 u1 u2 u3 u4 := by
  with_unfolding_all rfl
theorem len10 (v1 v2 v3 v4 v5 v6 u1 u2 u3 u4 : V) : (mergeK [] (kv6 v1 v2 v3 v4 v5 v6)).length + (mergeK [] (kv4 u1 u2 u3 u4)).length ≤ 1000 := by
  have a := length_mergeK (kv6 v1 v2 v3 v4 v5 v6) []
  have b := length_mergeK (kv4 u1 u2 u3 u4) []
  have c : (kv6 v1 v2 v3 v4 v5 v6).length = 6 := rfl
  have d : (kv4 u1 u2 u3 u4).length = 4 := rfl
  rw [List.length_nil] at a b
  omega
theorem keys10 (v1 v2 v3 v4 v5 v6 u1 u2 u3 u4 : V) {w : Str} (h : w ∈ words10) : (Sum.inr w : Key) ∈ (kv6 v1 v2 v3 v4 v5 v6 ++ kv4 u1 u2 u3 u4).map (·.1) := by
  have e : (kv6 v1 v2 v3 v4 v5 v6 ++ kv4 u1 u2 u3 u4).map (·.1) = words10.map Sum.inr := rfl
  rw [e]
  exact List.mem_map.mpr ⟨w, h, rfl⟩
def spSAny (K : PySem.W.Frag) : Sp := fun vs H Q _ => ∃ (p t : Addr) (ss : List Str), vs = [.ref p, .ref t] ∧ Src H p ∧ SqL K H t (ss.map V.str) ∧ t ≠ p ∧ (∀ s ∈ ss, s ∈ texts) ∧ 2 ≤ ss.length ∧ ss.length ≤ 7 ∧
  ∀ H' T xs, ButS p H H' → Src H' p → H T = none → H' T = some (.tup xs) → (∀ x ∈ xs, Flat x) → 2 ≤ xs.length → xs.length ≤ 5 → Q (.ref T) H'
theorem ButS.free2 {p d : Addr} {H H' : Hp} (b : ButS p H H') (S : Src H' p) (hd : H' d = none) : H d = none := by
  obtain ⟨x, y, z, h⟩ := S
  exact b.free h hd
section
variable {P : Program} {w : World} {K : PySem.W.Frag} {mg : Str → Option Value} {base : Heap}
theorem scSAny : FnScope ["source", "names", "word", "a", "b", "c", "k", "n", "some"] ["source", "names"] (defScope sSAny) := ⟨rfl, rfl, rfl, by decide +kernel, rfl, by decide +kernel, by decide +kernel⟩
theorem ok_sAny {f fM fD fP : Addr} {fd fdM fdD fdP : FuncData} (F : Fun K "_law_s_any" "_law_s_any" sSAny f fd) (GD : FnOk P w K mg base CX0 1 fD fdD ["source", "many"] spDraw) (gD : mg "_law_draw" = some (.ref fD)) (kD : PySem.W.keepIn K (.ref fD) = true) (bD : Binds K fdD ["source", "many"] [])
    (GM : FnOk P w K mg base CX0 2 fM fdM ["source", "some"] (spMixed K)) (gM : mg "_law_mixed" = some (.ref fM)) (kM : PySem.W.keepIn K (.ref fM) = true) (bM : Binds K fdM ["source", "some"] [])
    (GP : FnOk P w K mg base CX0 2 fP fdP ["source", "some"] (spPick K)) (gP : mg "_law_pick" = some (.ref fP)) (kP : PySem.W.keepIn K (.ref fP) = true) (bP : Binds K fdP ["source", "some"] []) : FnOk P w K mg base CX0 3 f fd ["source", "names"] (spSAny K) := by
  refine F.ok scSAny (fun vs H Q E h => ?_) (fun cdv A outer s H vs Q E hr h => ?_)
  · obtain ⟨p, t, ss, rfl, _⟩ := h
    rfl
  · obtain ⟨p, t, ss, rfl, S, ht, nt, hss, l2, l7, q⟩ := h
    have nd := scSAny.nd
    have hu := hu_of hr
    have hr1 := hr.mono (show 1 ≤ 2 by decide)
    refine ⟨_, pss_cons (ps_set (i := 2) nd rfl (Or.inl rfl) (pe_call GP hr (by rfl) gP kP bP .nil pass0 (pa_cons (pv 0) (pa_cons (pe_lst (pa_cons pe_str (pa_cons pe_str (pa_cons pe_str (pa_cons pe_str (pa_cons pe_str (pa_cons pe_str (pa_cons pe_str (pa_cons pe_str (pa_cons pe_str (pa_cons pe_str pa_nil))))))))))) pa_nil))))
      (pss_cons (ps_asg (pe_slice sl_list (pe_op op_cat (pe_call GM hr (by rfl) gM kM bM .nil pass0 (pa_cons (pv 0) (pa_cons (pv 1) pa_nil))) (pe_slice sl_list (pv 1) po_none (po_some pe_int))) po_none (po_some pe_int))
          (pg_unl rfl (pgs_cons (pg_name (i := 3) nd rfl (Or.inl rfl)) (pgs_cons (pg_name (i := 4) nd rfl (Or.inl rfl)) (pgs_cons (pg_name (i := 5) nd rfl (Or.inl rfl)) pgs_nil)))))
      (pss_cons (ps_par (i := 6) (j := 7) (by rfl) nd rfl rfl (by decide) rfl rfl (pa_cons (pe_op op_add pe_int (pe_call GD hr1 (by rfl) gD kD bD .nil pass0 (pa_cons (pv 0) (pa_cons pe_int pa_nil))))
          (pa_cons (pe_op op_add pe_int (pe_call GD hr1 (by rfl) gD kD bD .nil pass0 (pa_cons (pv 0) (pa_cons (pe_call GP hr (by rfl) gP kP bP .nil pass0 (pa_cons (pv 0) (pa_cons (pe_lst (pa_cons pe_int (pa_cons (pe_op op_pow pe_int pe_int) pa_nil))) pa_nil))) pa_nil)))) pa_nil)) (by rfl))
      (pss_cons (ps_set (i := 8) nd rfl (Or.inl rfl) (pe_disp (pps_cons pe_str (pe_tup (pa_cons (pv 3) (pa_cons (pv 7) pa_nil))) (pps_cons pe_str (pe_tup (pa_cons (pv 3) (pa_cons (pv 7) pa_nil))) (pps_cons pe_str (pe_tup (pa_cons (pv 3) (pa_cons (pv 4) pa_nil))) (pps_cons pe_str (pe_tup (pa_cons (pv 3) (pa_cons (pv 4) pa_nil)))
          (pps_cons pe_str (pe_tup (pa_cons (pv 3) (pa_cons (pv 6) (pa_cons (pv 4) pa_nil)))) (pps_cons pe_str (pe_tup (pa_cons (pv 3) (pa_cons (pv 6) (pa_cons (pv 4) (pa_cons (pv 5) pa_nil))))) pps_nil)))))) (by rfl) (by rfl) (fun z => by cases z) (by decide)))
      (pss_cons (ps_expr (pe_dupd (pv 8) (pe_disp (pps_cons pe_str (pe_tup (pa_cons (pv 3) (pa_cons (pv 4) pa_nil))) (pps_cons pe_str (pe_tup (pa_cons (pv 3) (pa_cons (pe_op op_sub (pv 6) pe_int) (pa_cons (pv 7) pa_nil)))) (pps_cons pe_str (pe_tup (pa_cons (pv 3) pa_nil)) (pps_cons pe_str (pe_tup (pa_cons (pv 7) pa_nil)) pps_nil)))) (by rfl) (by rfl) (fun z => by cases z) (by decide)) ⟨rfl, rfl, rfl, rfl⟩))
      (pss_one (ps_ret (pe_op op_catT (pe_tup (pa_cons (pv 2) pa_nil)) (pe_dget hu (pv 8) (pv 2) (fun _ _ => rfl))))))))), ?_⟩
    refine ⟨_, rfl, by show 10 ≤ sizeLine; decide, fun w1 nw1 => ?_⟩
    have S1 : Src (upd H w1 (.lst (words10.map V.str))) p := S.but nw1
    have w1p : w1 ≠ p := S.ne nw1
    have e1 : ButS p H (upd H w1 (.lst (words10.map V.str))) := ButS.same (Same.new nw1)
    have g1 : (upd H w1 (.lst (words10.map V.str))) w1 = some (.lst (words10.map V.str)) := upd_same
    refine ⟨p, w1, words10.map V.str, rfl, S1, SqL.of g1, w1p, by decide, by decide, fun H2 j x B2 S2 hx => ?_⟩
    obtain ⟨word, hword, rfl⟩ : ∃ w ∈ words10, x = V.str w := by
      rw [List.getElem?_map] at hx
      obtain ⟨w, hw, e⟩ := Option.map_eq_some_iff.mp hx
      exact ⟨w, List.mem_of_getElem? hw, e.symm⟩
    have E2 := e1.trans B2
    refine ⟨_, rfl, _, rfl, p, t, ss.map V.str, rfl, S2, SqL.but ht nt E2, nt, by rw [List.length_map]; omega, fun H3 D ys B3 S3 nD gD' pm => ?_⟩
    obtain ⟨zs, rfl, ps⟩ := perm_txt pm
    have E3 := E2.trans B3
    refine ⟨_, rfl, 1, rfl, t, ss.map V.str, rfl, SqL.but ht nt E3, fun R nR => ?_⟩
    rw [show ((1 : Int)) = ((1 : Nat) : Int) from rfl, cut_take _ 1 (by rw [List.length_map]; omega), ← List.map_take]
    have DR : D ≠ R := ne_of_none gD' nR
    have lz : zs.length = ss.length := ps.length_eq
    refine ⟨D, R, _, _, rfl, rfl, by rw [upd_ne DR]; exact gD', upd_same, by rw [sizeLine_eq, List.length_map, List.length_map, List.length_take]; omega, fun L nL => ?_⟩
    refine ⟨3, rfl, L, _, rfl, SqL.of upd_same, fun M nM => ?_⟩
    rw [show ((3 : Int)) = ((3 : Nat) : Int) from rfl, cut_take _ 3 (by rw [List.length_append, List.length_map, List.length_map, List.length_take]; omega), ← List.map_append, ← List.map_take]
    rw [← List.map_append] at nM
    have allT : ∀ s ∈ (zs ++ ss.take 1).take 3, s ∈ texts := fun s m => by
      rcases List.mem_append.mp (List.mem_of_mem_take m) with z | z
      · exact hss s (ps.mem_iff.mp z)
      · exact hss s (List.mem_of_mem_take z)
    have l3 : ((zs ++ ss.take 1).take 3).length = 3 := by
      rw [List.length_take, List.length_append, List.length_take]
      omega
    have E4 : ButS p H (upd (upd (upd H3 R (.lst ((ss.take 1).map V.str))) L (.lst ((zs ++ ss.take 1).map V.str))) M (.lst (((zs ++ ss.take 1).take 3).map V.str))) := ((E3.trans (ButS.same (Same.new nR))).trans (ButS.same (Same.new nL))).trans (ButS.same (Same.new nM))
    have S4 : Src (upd (upd (upd H3 R (.lst ((ss.take 1).map V.str))) L (.lst ((zs ++ ss.take 1).map V.str))) M (.lst (((zs ++ ss.take 1).take 3).map V.str))) p := ((S3.but nR).but nL).but nM
    have gM4 : (upd (upd (upd H3 R (.lst ((ss.take 1).map V.str))) L (.lst ((zs ++ ss.take 1).map V.str))) M (.lst (((zs ++ ss.take 1).take 3).map V.str))) M = some (.lst (((zs ++ ss.take 1).take 3).map V.str)) := upd_same
    generalize upd (upd (upd H3 R (.lst ((ss.take 1).map V.str))) L (.lst ((zs ++ ss.take 1).map V.str))) M (.lst (((zs ++ ss.take 1).take 3).map V.str)) = H4 at E4 S4 gM4
    generalize (zs ++ ss.take 1).take 3 = tri at allT l3 gM4
    obtain ⟨a, b, c, rfl⟩ : ∃ a b c, tri = [a, b, c] := by
      match tri, l3 with
      | [a, b, c], _ => exact ⟨a, b, c, rfl⟩
    have fa : Flat (.str a) := .inl ⟨a, rfl, allT a (by simp)⟩
    have fb : Flat (.str b) := .inl ⟨b, rfl, allT b (by simp)⟩
    have fc : Flat (.str c) := .inl ⟨c, rfl, allT c (by simp)⟩
    refine ⟨M, _, rfl, SqL.of gM4, rfl, _, _, rfl, _, _, rfl, _, _, rfl, rfl, ?_⟩
    refine ⟨_, rfl, p, 4, rfl, S4, by decide, by decide, fun H5 k B5 S5 k0 k1 => ⟨1, k, rfl, rfl, ?_⟩⟩
    have E5 := E4.trans B5
    refine ⟨_, rfl, _, rfl, 10, 12, rfl, rfl, ⟨by decide, by decide, by decide⟩, by show 2 ≤ sizeLine; decide, fun l nl => ?_⟩
    refine ⟨p, l, _, rfl, S5.but nl, SqL.of upd_same, S5.ne nl, by decide, by decide, fun H6 j x B6 S6 hx => ?_⟩
    obtain ⟨m, rfl, m0, m1⟩ : ∃ m : Int, x = .int m ∧ 0 < m ∧ m ≤ 10 ^ 12 := by
      match j, hx with
      | 0, hx => exact ⟨3, (Option.some.inj hx).symm, by decide, by decide⟩
      | 1, hx => exact ⟨10 ^ 12, (Option.some.inj hx).symm, by decide, by decide⟩
    have E6 := E5.trans ((ButS.same (Same.new nl)).trans B6)
    refine ⟨p, m, rfl, S6, m0, Nat.lt_of_le_of_lt (show m.natAbs ≤ 10 ^ 12 by omega) (by decide), fun H7 n B7 S7 n0 n1 => ⟨1, n, rfl, rfl, ?_⟩⟩
    have E7 := E6.trans B7
    have fk : Flat (.int (1 + k)) := .inr ⟨_, rfl, by omega⟩
    have fk1 : Flat (.int (1 + k - 1)) := .inr ⟨_, rfl, by omega⟩
    have fn : Flat (.int (1 + n)) := .inr ⟨_, rfl, by omega⟩
    have f1 : ∀ {x : V}, Flat x → ∀ z ∈ [x], Flat z := fun h z m => by
      rw [List.mem_singleton.mp m]
      exact h
    have f2 : ∀ {x y : V}, Flat x → Flat y → ∀ z ∈ [x, y], Flat z := fun h1 h2 z m => by
      rcases List.mem_cons.mp m with e | m
      · rw [e]
        exact h1
      · exact f1 h2 z m
    have f3 : ∀ {x y u : V}, Flat x → Flat y → Flat u → ∀ z ∈ [x, y, u], Flat z := fun h1 h2 h3 z m => by
      rcases List.mem_cons.mp m with e | m
      · rw [e]
        exact h1
      · exact f2 h2 h3 z m
    have f4 : ∀ {x y u v : V}, Flat x → Flat y → Flat u → Flat v → ∀ z ∈ [x, y, u, v], Flat z := fun h1 h2 h3 h4 z m => by
      rcases List.mem_cons.mp m with e | m
      · rw [e]
        exact h1
      · exact f3 h2 h3 h4 z m
    have z2 : 2 ≤ sizeLine := by decide
    have z3 : 3 ≤ sizeLine := by decide
    have z4 : 4 ≤ sizeLine := by decide
    have z1 : 1 ≤ sizeLine := by decide
    refine ⟨_, _, rfl, fun d ndd => ⟨_, rfl, _, rfl, z2, fun t1 n1 => ?_⟩⟩
    have C0 : Same H7 (upd H7 d (.dK [])) := Same.new ndd
    have d0 : (upd H7 d (.dK [])) d = some (.dK []) := upd_same
    generalize upd H7 d (.dK []) = J0 at n1 C0 d0
    have G1 := (GoodK.nil (G := J0)).snoc (k := Sum.inr "make") n1 (f2 fa fn) (by simp) (by simp)
    have C1 := C0.trans (Same.new (u := .tup [.str a, .int (1 + n)]) n1)
    have d1 := Same.new (u := .tup [.str a, .int (1 + n)]) n1 _ _ d0
    generalize upd J0 t1 (.tup [.str a, .int (1 + n)]) = J1 at G1 C1 d1
    refine ⟨_, rfl, _, rfl, z2, fun t2 n2 => ?_⟩
    have G2 := G1.snoc (k := Sum.inr "grow") n2 (f2 fa fn) (by simp) (by simp)
    have C2 := C1.trans (Same.new (u := .tup [.str a, .int (1 + n)]) n2)
    have d2 := Same.new (u := .tup [.str a, .int (1 + n)]) n2 _ _ d1
    generalize upd J1 t2 (.tup [.str a, .int (1 + n)]) = J2 at G2 C2 d2
    refine ⟨_, rfl, _, rfl, z2, fun t3 n3 => ?_⟩
    have G3 := G2.snoc (k := Sum.inr "move") n3 (f2 fa fb) (by simp) (by simp)
    have C3 := C2.trans (Same.new (u := .tup [.str a, .str b]) n3)
    have d3 := Same.new (u := .tup [.str a, .str b]) n3 _ _ d2
    generalize upd J2 t3 (.tup [.str a, .str b]) = J3 at G3 C3 d3
    refine ⟨_, rfl, _, rfl, z2, fun t4 n4 => ?_⟩
    have G4 := G3.snoc (k := Sum.inr "swap") n4 (f2 fa fb) (by simp) (by simp)
    have C4 := C3.trans (Same.new (u := .tup [.str a, .str b]) n4)
    have d4 := Same.new (u := .tup [.str a, .str b]) n4 _ _ d3
    generalize upd J3 t4 (.tup [.str a, .str b]) = J4 at G4 C4 d4
    refine ⟨_, rfl, _, rfl, _, rfl, z3, fun t5 n5 => ?_⟩
    have G5 := G4.snoc (k := Sum.inr "cut") n5 (f3 fa fk fb) (by simp) (by simp)
    have C5 := C4.trans (Same.new (u := .tup [.str a, .int (1 + k), .str b]) n5)
    have d5 := Same.new (u := .tup [.str a, .int (1 + k), .str b]) n5 _ _ d4
    generalize upd J4 t5 (.tup [.str a, .int (1 + k), .str b]) = J5 at G5 C5 d5
    refine ⟨_, rfl, _, rfl, _, rfl, _, rfl, z4, fun t6 n6 => ?_⟩
    have G6 := G5.snoc (k := Sum.inr "split") n6 (f4 fa fk fb fc) (by simp) (by simp)
    have C6 := C5.trans (Same.new (u := .tup [.str a, .int (1 + k), .str b, .str c]) n6)
    have d6 := Same.new (u := .tup [.str a, .int (1 + k), .str b, .str c]) n6 _ _ d5
    generalize upd J5 t6 (.tup [.str a, .int (1 + k), .str b, .str c]) = J6 at G6 C6 d6
    refine ⟨d6, kv6 (.ref t1) (.ref t2) (.ref t3) (.ref t4) (.ref t5) (.ref t6), rfl, by simp [kv6], ?_⟩
    have onD : ∀ {J : Hp} {kvs : List (Key × V)} {u : HO}, J d = some (.dK []) → GoodK J kvs → GoodK (upd J d u) kvs := fun {J kvs u} hd g kv m => by
      obtain ⟨T, xs, q1, q2, q3⟩ := g kv m
      exact ⟨T, xs, q1, by rw [upd_ne (fun z => by rw [z, hd] at q2; cases q2)]; exact q2, q3⟩
    have G7 := onD (u := .dK (mergeK [] (kv6 (.ref t1) (.ref t2) (.ref t3) (.ref t4) (.ref t5) (.ref t6)))) d6 G6
    have g7 : (upd J6 d (.dK (mergeK [] (kv6 (.ref t1) (.ref t2) (.ref t3) (.ref t4) (.ref t5) (.ref t6))))) d = some (.dK (mergeK [] (kv6 (.ref t1) (.ref t2) (.ref t3) (.ref t4) (.ref t5) (.ref t6)))) := upd_same
    have C7 : Same H7 (upd J6 d (.dK (mergeK [] (kv6 (.ref t1) (.ref t2) (.ref t3) (.ref t4) (.ref t5) (.ref t6))))) := fun b o e => by
      rw [upd_ne (ne_of_none e ndd)]
      exact C6 b o e
    show tSeq _ _ _ _ (upd J6 d (.dK (mergeK [] (kv6 (.ref t1) (.ref t2) (.ref t3) (.ref t4) (.ref t5) (.ref t6)))))
    generalize upd J6 d (.dK (mergeK [] (kv6 (.ref t1) (.ref t2) (.ref t3) (.ref t4) (.ref t5) (.ref t6)))) = L0 at G7 g7 C7 ⊢
    refine ⟨_, rfl, d, rfl, .inl ⟨_, .inl g7⟩, fun e ne => ⟨_, rfl, _, rfl, z2, fun u1 m1 => ?_⟩⟩
    have de : d ≠ e := ne_of_none g7 ne
    have P0 := G7.same (Same.new (u := .dK []) ne)
    have D0 := C7.trans (Same.new (u := .dK []) ne)
    have h0 := Same.new (u := .dK []) ne _ _ g7
    have x0 : (upd L0 e (.dK [])) e = some (.dK []) := upd_same
    generalize upd L0 e (.dK []) = L1 at m1 P0 D0 h0 x0
    have Q1 := (GoodK.nil (G := L1)).snoc (k := Sum.inr "pour") m1 (f2 fa fb) (by simp) (by simp)
    have P1 := P0.same (Same.new (u := .tup [.str a, .str b]) m1)
    have D1 := D0.trans (Same.new (u := .tup [.str a, .str b]) m1)
    have h1 := Same.new (u := .tup [.str a, .str b]) m1 _ _ h0
    have x1 := Same.new (u := .tup [.str a, .str b]) m1 _ _ x0
    generalize upd L1 u1 (.tup [.str a, .str b]) = L2 at Q1 P1 D1 h1 x1
    refine ⟨_, rfl, _, rfl, _, _, rfl, rfl, _, rfl, z3, fun u2 m2 => ?_⟩
    have Q2 := Q1.snoc (k := Sum.inr "drop") m2 (f3 fa fk1 fn) (by simp) (by simp)
    have P2 := P1.same (Same.new (u := .tup [.str a, .int (1 + k - 1), .int (1 + n)]) m2)
    have D2 := D1.trans (Same.new (u := .tup [.str a, .int (1 + k - 1), .int (1 + n)]) m2)
    have h2 := Same.new (u := .tup [.str a, .int (1 + k - 1), .int (1 + n)]) m2 _ _ h1
    have x2 := Same.new (u := .tup [.str a, .int (1 + k - 1), .int (1 + n)]) m2 _ _ x1
    generalize upd L2 u2 (.tup [.str a, .int (1 + k - 1), .int (1 + n)]) = L3 at Q2 P2 D2 h2 x2
    refine ⟨_, rfl, z1, fun u3 m3 => ?_⟩
    have Q3 := Q2.snoc (k := Sum.inr "end") m3 (f1 fa) (by simp) (by simp)
    have P3 := P2.same (Same.new (u := .tup [.str a]) m3)
    have D3 := D2.trans (Same.new (u := .tup [.str a]) m3)
    have h3 := Same.new (u := .tup [.str a]) m3 _ _ h2
    have x3 := Same.new (u := .tup [.str a]) m3 _ _ x2
    generalize upd L3 u3 (.tup [.str a]) = L4 at Q3 P3 D3 h3 x3
    refine ⟨_, rfl, z1, fun u4 m4 => ?_⟩
    have Q4 := Q3.snoc (k := Sum.inr "wait") m4 (f1 fn) (by simp) (by simp)
    have P4 := P3.same (Same.new (u := .tup [.int (1 + n)]) m4)
    have D4 := D3.trans (Same.new (u := .tup [.int (1 + n)]) m4)
    have h4 := Same.new (u := .tup [.int (1 + n)]) m4 _ _ h3
    have x4 := Same.new (u := .tup [.int (1 + n)]) m4 _ _ x3
    generalize upd L4 u4 (.tup [.int (1 + n)]) = L5 at Q4 P4 D4 h4 x4
    refine ⟨x4, kv4 (.ref u1) (.ref u2) (.ref u3) (.ref u4), rfl, by simp [kv4], ?_⟩
    refine ⟨e, _, _, rfl, de, by rw [upd_ne de]; exact h4, upd_same, len10 .., ?_⟩
    rw [merge10]
    have hn : ∀ {J : Hp} {kvs : List (Key × V)}, GoodK J kvs → J e = some (.dK []) → J d = some (.dK (mergeK [] (kv6 (.ref t1) (.ref t2) (.ref t3) (.ref t4) (.ref t5) (.ref t6)))) → ∀ {u u2 : HO}, GoodK (upd (upd J e u) d u2) kvs := fun {J kvs} g he hd {u u2} kv m => by
      obtain ⟨T, xs, q1, q2, q3⟩ := g kv m
      refine ⟨T, xs, q1, ?_, q3⟩
      rw [upd_ne (fun z => by rw [z, hd] at q2; cases q2), upd_ne (fun z => by rw [z, he] at q2; cases q2)]
      exact q2
    have allG : GoodK (upd (upd L5 e (.dK (mergeK [] (kv4 (.ref u1) (.ref u2) (.ref u3) (.ref u4))))) d (.dK (kv6 (.ref t1) (.ref t2) (.ref t3) (.ref t4) (.ref t5) (.ref t6) ++ kv4 (.ref u1) (.ref u2) (.ref u3) (.ref u4)))) (kv6 (.ref t1) (.ref t2) (.ref t3) (.ref t4) (.ref t5) (.ref t6) ++ kv4 (.ref u1) (.ref u2) (.ref u3) (.ref u4)) := fun kv m => by
      rcases List.mem_append.mp m with z | z
      · exact hn P4 x4 h4 kv z
      · exact hn Q4 x4 h4 kv z
    have gd : (upd (upd L5 e (.dK (mergeK [] (kv4 (.ref u1) (.ref u2) (.ref u3) (.ref u4))))) d (.dK (kv6 (.ref t1) (.ref t2) (.ref t3) (.ref t4) (.ref t5) (.ref t6) ++ kv4 (.ref u1) (.ref u2) (.ref u3) (.ref u4)))) d = some (.dK (kv6 (.ref t1) (.ref t2) (.ref t3) (.ref t4) (.ref t5) (.ref t6) ++ kv4 (.ref u1) (.ref u2) (.ref u3) (.ref u4))) := upd_same
    have De : Same H7 (upd (upd L5 e (.dK (mergeK [] (kv4 (.ref u1) (.ref u2) (.ref u3) (.ref u4))))) d (.dK (kv6 (.ref t1) (.ref t2) (.ref t3) (.ref t4) (.ref t5) (.ref t6) ++ kv4 (.ref u1) (.ref u2) (.ref u3) (.ref u4)))) := fun b o q => by
      rw [upd_ne (ne_of_none q ndd), upd_ne (ne_of_none (C7 b o q) ne)]
      exact D4 b o q
    generalize upd (upd L5 e (.dK (mergeK [] (kv4 (.ref u1) (.ref u2) (.ref u3) (.ref u4))))) d (.dK (kv6 (.ref t1) (.ref t2) (.ref t3) (.ref t4) (.ref t5) (.ref t6) ++ kv4 (.ref u1) (.ref u2) (.ref u3) (.ref u4))) = L6 at allG gd De ⊢
    obtain ⟨kv, mkv, hval⟩ := val_mem _ _ (keys10 (.ref t1) (.ref t2) (.ref t3) (.ref t4) (.ref t5) (.ref t6) (.ref u1) (.ref u2) (.ref u3) (.ref u4) hword)
    obtain ⟨TT, xs, ekv, gT, fT, la, lb⟩ := allG kv mkv
    rw [ekv] at hval
    refine ⟨_, rfl, z1, fun o1 no1 => ⟨_, rfl, _, rfl, d, .ref TT, rfl, ?_, ?_⟩⟩
    · have g := DGet.k (k := Sum.inr word) (Same.new (u := .tup [.str word]) no1 _ _ gd)
      rw [hval] at g
      exact g
    · refine ⟨o1, TT, [.str word], xs, rfl, rfl, SqT.of upd_same, SqT.of (Same.new no1 _ _ gT), by simp, by rw [sizeLine_eq, List.length_singleton]; omega, fun z => by rw [z] at la; exact absurd la (by decide), fun _ R nR => ?_⟩
      have B : ButS p H (upd (upd L6 o1 (.tup [.str word])) R (.tup ([.str word] ++ xs))) := E7.trans (ButS.same ((De.trans (Same.new no1)).trans (Same.new nR)))
      have SR : Src (upd (upd L6 o1 (.tup [.str word])) R (.tup ([.str word] ++ xs))) p := by
        obtain ⟨x, y, z, hp⟩ := S7
        exact ⟨x, y, z, Same.new nR _ _ (Same.new no1 _ _ (De _ _ hp))⟩
      have nR0 : H R = none := by
        cases z : H R with
        | none => rfl
        | some o =>
          by_cases q : R = p
          · obtain ⟨x, y, u, hp⟩ := S7
            have z2 := Same.new (u := .tup [.str word]) no1 _ _ (De _ _ hp)
            rw [q, z2] at nR
            cases nR
          · have z2 := Same.new (u := .tup [.str word]) no1 _ _ (De _ _ (E7 _ _ q z))
            rw [z2] at nR
            cases nR
      refine q _ R _ B SR nR0 upd_same (fun x m => ?_) (by rw [List.length_append, List.length_singleton]; omega) (by rw [List.length_append, List.length_singleton]; omega)
      rcases List.mem_append.mp m with z | z
      · rw [List.mem_singleton.mp z]
        exact .inl ⟨word, rfl, List.mem_append_left _ (List.mem_append_right _ hword)⟩
      · exact fT x z
end
end OB
namespace OB
open PySem PySem.Spec PyProof.Rows L2
/-! ### a deed with lists for tuples, or not -/
abbrev sLoose : Stmt := top 52
def spLoose (K : PySem.W.Frag) (deep : Prop) : Sp := fun vs H Q _ => (∃ (p : Addr) (x : V), vs = [.ref p, x] ∧ Flat x ∧ ∀ H', Same H H' → Q x H') ∨
  (deep ∧ ∃ (p a : Addr) (xs : List V), vs = [.ref p, .ref a] ∧ Src H p ∧ H a = some (.tup xs) ∧ (∀ x ∈ xs, Flat x) ∧ xs.length < 1000 ∧ ∀ H' D tp, ButS p H H' → Src H' p → H D = none → H' D = some (mkX tp xs) → Q (.ref D) H')
theorem Flat.kd {K : PySem.W.Frag} {H : Hp} {x : V} (h : Flat x) : ∃ k, Any K H x k ∧ fSeq x k = false := by
  rcases h with ⟨s, rfl, m⟩ | ⟨i, rfl, _⟩
  · exact ⟨.str, .str (texts_short s m), rfl⟩
  · exact ⟨.int, .int i, rfl⟩
section
variable {P : Program} {w : World} {K : PySem.W.Frag} {mg : Str → Option Value} {base : Heap}
theorem scLoose : FnScope ["source", "thing", "found", "part"] ["source", "thing"] (defScope sLoose) := ⟨rfl, rfl, rfl, by decide +kernel, rfl, by decide +kernel, by decide +kernel⟩
theorem ok_looseS {f fD : Addr} {fd fdD : FuncData} {d : Nat} {sp0 : Sp} {deep : Prop} (F : Fun K "_law_loose" "_law_loose" sLoose f fd) (gF : mg "_law_loose" = some (.ref f)) (bF : Binds K fd ["source", "thing"] []) (T : TxtC mg)
    (GD : FnOk P w K mg base CX0 1 fD fdD ["source", "many"] spDraw) (gD : mg "_law_draw" = some (.ref fD)) (kD : PySem.W.keepIn K (.ref fD) = true) (bD : Binds K fdD ["source", "many"] [])
    (G : FnOk P w K mg base CX0 (d + 1) f fd ["source", "thing"] sp0) (hin : deep → ∀ (p : Addr) (x : V) (H : Hp) (Q : VK), Flat x → (∀ H', Same H H' → Q x H') → sp0 [.ref p, x] H Q E0) : FnOk P w K mg base CX0 (d + 2) f fd ["source", "thing"] (spLoose K deep) := by
  refine F.ok scLoose (fun vs H Q E h => ?_) (fun cdv A outer s H vs Q E hr h => ?_)
  · rcases h with ⟨p, x, rfl, _⟩ | ⟨_, p, a, xs, rfl, _⟩ <;> rfl
  · have nd := scLoose.nd
    have hr1 := hr.mono (Nat.succ_le_succ (Nat.zero_le d))
    refine ⟨_, pss_cons (ps_if (pt_not (pt_val (pe_callB call_isAT (by rfl) T.isi bootIsi (pa_cons (pv 1) (pa_cons (pe_tup (pa_cons (pe_bltn (v := .ty "list") (u := .type "list") (by rfl) T.list bList rfl) (pa_cons (pe_bltn (v := .ty "tuple") (u := .type "tuple") (by rfl) T.tuple bTuple rfl) pa_nil))) pa_nil)))))
        (pss_one (ps_ret (pv 1))) pss_nil)
      (pss_cons (ps_setLc (i := 2) (own := [("part", 3)]) (g := gName 3) (tt := tYes) rfl nd rfl rfl (sw_true rfl rfl rfl (by decide +kernel)) (pi_tup (pv 1)) (blkOk_by (N := ["source", "thing", "found", "part"]) (sc := defScope sLoose) (by decide +kernel))
        (fun _ _ _ _ _ => pg_name (i := 3) nd rfl (Or.inl rfl)) (fun _ _ _ _ _ => pts_nil) (fun _ _ _ _ _ => pe_call G hr (by rfl) gF F.kp bF .nil pass0 (pa_cons (pv 0) (pa_cons (pv 3) pa_nil))))
      (pss_one (ps_ret (pe_ifExp (pt_cmpR op_eq (pe_call GD hr1 (by rfl) gD kD bD .nil pass0 (pa_cons (pv 0) (pa_cons pe_int pa_nil))) pe_int (nomark _)) (pv 2) (pe_callTy call_tuple_of (by rfl) T.tuple (by decide +kernel) (pa_cons (pv 2) pa_nil)))))), ?_⟩
    rcases h with ⟨p, x, rfl, hx, q⟩ | ⟨dp, p, a, xs, rfl, S, ha, hx, hl, q⟩
    · refine ⟨_, rfl, by show 2 ≤ sizeLine; decide, fun tt ntt => ?_⟩
      obtain ⟨k, ax, fk⟩ := hx.kd (K := K) (H := upd H tt (.tup [.ty "list", .ty "tuple"]))
      obtain ⟨t, U⟩ := ax.says
      refine ⟨x, tt, _, t, _, _, rfl, upd_same, .cons (.ty _) (.cons (.ty _) .nil), U.ty, U.seq, _, rfl, ?_⟩
      have fk2 : (k.isLst || k.isTup) = false := fk
      rw [fk2]
      exact iteT ⟨_, rfl, q _ (Same.new ntt)⟩
    · refine ⟨_, rfl, by show 2 ≤ sizeLine; decide, fun tt ntt => ?_⟩
      have e1 : Same H (upd H tt (.tup [.ty "list", .ty "tuple"])) := Same.new ntt
      have ax : Any K (upd H tt (.tup [.ty "list", .ty "tuple"])) (.ref a) .tup := .tup (e1 _ _ ha)
      obtain ⟨t, U⟩ := ax.says
      refine ⟨_, tt, _, t, _, _, rfl, upd_same, .cons (.ty _) (.cons (.ty _) .nil), U.ty, U.seq, _, rfl, ?_⟩
      refine iteF ⟨_, rfl, a, rfl, ⟨xs, SqT.of (e1 _ _ ha)⟩, fun D nD => ?_⟩
      have S1 : Src (upd H tt (.tup [.ty "list", .ty "tuple"])) p := S.but ntt
      generalize upd H tt (.tup [.ty "list", .ty "tuple"]) = H1 at e1 nD S1
      have nD0 : H D = none := e1.free nD
      have Dp : D ≠ p := S1.ne nD
      refine lc_tup (xs := xs) (fun i J => (∀ b o, b ≠ D → H1 b = some o → J b = some o) ∧ J D = some (.lst (xs.take i))) ⟨fun b o nb e => by rw [upd_ne nb]; exact e, by rw [upd_same]; rfl⟩ (fun i J _ z => SqT.of (z.1 _ _ (ne_of_none ha nD0) (e1 _ _ ha))) (fun i x J hi ⟨k1, k2⟩ => ?_) (fun J ⟨k1, k2⟩ => ?_)
      · refine ⟨rfl, ?_⟩
        dsimp only [tYes]
        rw [if_pos rfl]
        refine ⟨_, rfl, _, rfl, hin dp p x _ _ (hx x (List.mem_of_getElem? hi)) fun J2 e2 => ?_⟩
        refine ⟨_, e2 _ _ k2, by rw [List.length_take, sizeLine_eq]; omega, fun b o nb e => by rw [upd_ne nb]; exact e2 _ _ (k1 b o nb e), ?_⟩
        rw [upd_same, List.take_add_one, hi] <;> rfl
      · rw [List.take_length] at k2
        have S2 : Src J p := by
          obtain ⟨x, y, z, hp⟩ := S1
          exact ⟨x, y, z, k1 _ _ Dp.symm hp⟩
        have B2 : ButS p H J := fun b o nb e => k1 b o (ne_of_none e nD0) (e1 _ _ e)
        refine ⟨_, rfl, p, 2, rfl, S2, by decide, by decide, fun J3 n B3 S3 n0 n1 => ?_⟩
        have B4 := B2.trans B3
        have g3 : J3 D = some (.lst xs) := B3 _ _ Dp k2
        refine ⟨rfl, _, rfl, ?_⟩
        refine ite2 (fun _ => ⟨_, rfl, q J3 D false B4 S3 nD0 g3⟩) (fun _ => ?_)
        refine ⟨_, rfl, D, xs, rfl, .inl ⟨SqL.of g3, fun R nR => ?_⟩⟩
        exact q _ R true (B4.trans (ButS.same (Same.new nR))) (S3.but nR) (B4.free2 S3 nR) upd_same
end
section
variable {P : Program} {w : World} {K : PySem.W.Frag} {mg : Str → Option Value} {base : Heap}
theorem ok_loose {f fD : Addr} {fd fdD : FuncData} (F : Fun K "_law_loose" "_law_loose" sLoose f fd) (gF : mg "_law_loose" = some (.ref f)) (bF : Binds K fd ["source", "thing"] []) (T : TxtC mg)
    (GD : FnOk P w K mg base CX0 1 fD fdD ["source", "many"] spDraw) (gD : mg "_law_draw" = some (.ref fD)) (kD : PySem.W.keepIn K (.ref fD) = true) (bD : Binds K fdD ["source", "many"] []) : FnOk P w K mg base CX0 3 f fd ["source", "thing"] (spLoose K True) := by
  have G0 : FnOk P w K mg base CX0 1 f fd ["source", "thing"] (fun _ _ _ _ => False) := F.ok scLoose (fun vs H Q E h => h.elim) (fun cdv A outer s H vs Q E hr h => h.elim)
  have G1 : FnOk P w K mg base CX0 2 f fd ["source", "thing"] (spLoose K False) := ok_looseS F gF bF T GD gD kD bD G0 fun z => z.elim
  exact ok_looseS F gF bF T GD gD kD bD G1 fun _ p x H Q hx q => .inl ⟨p, x, rfl, hx, q⟩
end
end OB
namespace OB
open PySem PySem.Spec PyProof.Rows L2
/-! ### deeds bent -/
abbrev sBent : Stmt := top 62
inductive Item (H : Hp) : V → Prop where
  | flat {x : V} : Flat x → Item H x
  | non : Item H .non
  | bl (b : Bool) : Item H (.bl b)
  | lst {a : Addr} {s : List Str} : H a = some (.lst (s.map V.str)) → (∀ t ∈ s, t ∈ texts) → s.length ≤ 1 → Item H (.ref a)
  | tup {a : Addr} : H a = some (.tup []) → Item H (.ref a)
  | dct {a : Addr} : H a = some (.dK []) → Item H (.ref a)
theorem Item.same {H H' : Hp} {x : V} (h : Item H x) (e : Same H H') : Item H' x := by
  cases h with
  | flat f => exact .flat f
  | non => exact .non
  | bl b => exact .bl b
  | lst q1 q2 q3 => exact .lst (e _ _ q1) q2 q3
  | tup q => exact .tup (e _ _ q)
  | dct q => exact .dct (e _ _ q)
/-- a source stands at p: it is no such thing -/
theorem Item.but {p : Addr} {H H' : Hp} {x : V} (h : Item H x) (S : Src H p) (b : ButS p H H') : Item H' x := by
  obtain ⟨d, s, c, hp⟩ := S
  cases h with
  | flat f => exact .flat f
  | non => exact .non
  | bl b => exact .bl b
  | @lst a ss q1 q2 q3 =>
    have na : a ≠ p := fun z => by
      rw [z, hp] at q1
      have y := congrArg List.length (HO.lst.inj (Option.some.inj q1))
      rw [List.length_map] at y
      simp at y
      omega
    exact .lst (b _ _ na q1) q2 q3
  | tup q => exact .tup (b _ _ (fun z => by rw [z, hp] at q; cases q) q)
  | dct q => exact .dct (b _ _ (fun z => by rw [z, hp] at q; cases q) q)
theorem Item.any {K : PySem.W.Frag} {H : Hp} {x : V} (h : Item H x) : ∃ k, Any K H x k := by
  cases h with
  | flat f => exact f.any
  | non => exact ⟨_, .non⟩
  | bl b => exact ⟨_, .bl b⟩
  | lst q _ _ => exact ⟨_, .lst q⟩
  | tup q => exact ⟨_, .tup q⟩
  | dct q => exact ⟨_, .dct q⟩
theorem cut_mem {x : V} {xs : List V} {lo hi : Option Int} (h : x ∈ cutV xs lo hi) : x ∈ xs := List.mem_of_mem_drop (List.mem_of_mem_take h)
theorem snoc_of : ∀ l : List Str, l ≠ [] → ∃ ini x, l = ini ++ [x]
  | [], h => absurd rfl h
  | [x], _ => ⟨[], x, rfl⟩
  | a :: b :: l, _ => by
    obtain ⟨ini, x, e⟩ := snoc_of (b :: l) (fun z => by cases z)
    exact ⟨a :: ini, x, by rw [e] <;> rfl⟩
theorem all_nil {P : V → Prop} : ∀ y ∈ ([] : List V), P y := fun y m => by cases m
theorem all_cons {P : V → Prop} {x : V} {l : List V} (h : P x) (t : ∀ y ∈ l, P y) : ∀ y ∈ x :: l, P y := fun y m => by
  rcases List.mem_cons.mp m with z | z
  · rw [z]
    exact h
  · exact t y z
theorem flat_i (i : Int) (h : i.natAbs ≤ 10 ^ 15) : Flat (.int i) := .inr ⟨_, rfl, h⟩
theorem flat_s (s : Str) (h : s ∈ texts) : Flat (.str s) := .inl ⟨_, rfl, h⟩
def spBent (K : PySem.W.Frag) : Sp := fun vs H Q _ => ∃ (p n t : Addr) (ss : List Str) (xs : List V), vs = [.ref p, .ref n, .ref t] ∧ Src H p ∧ SqL K H n (ss.map V.str) ∧ n ≠ p ∧ (∀ s ∈ ss, s ∈ texts) ∧ 2 ≤ ss.length ∧ ss.length ≤ 7 ∧ H t = some (.tup xs) ∧ (∀ x ∈ xs, Flat x) ∧ 2 ≤ xs.length ∧ xs.length ≤ 5 ∧
  ∀ H' D tp ys, ButS p H H' → Src H' p → H D = none → H' D = some (mkX tp ys) → (∀ y ∈ ys, Item H' y) → ys.length ≤ 20 → Q (.ref D) H'
section
variable {P : Program} {w : World} {K : PySem.W.Frag} {mg : Str → Option Value} {base : Heap}
theorem scBent : FnScope ["source", "names", "deed", "found", "way", "odds", "at"] ["source", "names", "deed"] (defScope sBent) := ⟨rfl, rfl, rfl, by decide +kernel, rfl, by decide +kernel, by decide +kernel⟩
theorem ok_bent {f fL fD fP : Addr} {fd fdL fdD fdP : FuncData} (F : Fun K "_law_bent" "_law_bent" sBent f fd) (T : TxtC mg) (GD : FnOk P w K mg base CX0 1 fD fdD ["source", "many"] spDraw) (gD : mg "_law_draw" = some (.ref fD)) (kD : PySem.W.keepIn K (.ref fD) = true) (bD : Binds K fdD ["source", "many"] [])
    (GL : FnOk P w K mg base CX0 3 fL fdL ["source", "thing"] (spLoose K True)) (gL : mg "_law_loose" = some (.ref fL)) (kL : PySem.W.keepIn K (.ref fL) = true) (bL : Binds K fdL ["source", "thing"] [])
    (GP : FnOk P w K mg base CX0 2 fP fdP ["source", "some"] (spPick K)) (gP : mg "_law_pick" = some (.ref fP)) (kP : PySem.W.keepIn K (.ref fP) = true) (bP : Binds K fdP ["source", "some"] []) : FnOk P w K mg base CX0 4 f fd ["source", "names", "deed"] (spBent K) := by
  refine F.ok scBent (fun vs H Q E h => ?_) (fun cdv A outer s H vs Q E hr h => ?_)
  · obtain ⟨p, n, t, ss, xs, rfl, _⟩ := h
    rfl
  · obtain ⟨p, n, t, ss, xs, rfl, S, hn, np, hss, l2, l7, ht, hx, x2, x5, q⟩ := h
    have nd := scBent.nd
    have hr1 := hr.mono (show 1 ≤ 3 by decide)
    have hr2 := hr.mono (show 2 ≤ 3 by decide)
    refine ⟨_, pss_cons (ps_par (i := 3) (j := 4) (by rfl) nd rfl rfl (by decide) rfl rfl (pa_cons (pe_callTy call_list_of (by rfl) T.list (by decide +kernel) (pa_cons (pv 2) pa_nil)) (pa_cons (pe_call GD hr1 (by rfl) gD kD bD .nil pass0 (pa_cons (pv 0) (pa_cons pe_int pa_nil))) pa_nil)) (by rfl))
      (pss_cons (ps_set (i := 5) nd rfl (Or.inl rfl) (pe_lst (pa_cons pe_non (pa_cons pe_int (pa_cons (pe_un un_neg pe_int) (pa_cons pe_bl (pa_cons pe_int (pa_cons pe_int (pa_cons (pe_op op_pow pe_int pe_int) (pa_cons pe_str (pa_cons pe_str (pa_cons pe_str (pa_cons (pe_lst pa_nil) (pa_cons (pe_lst (pa_cons pe_str pa_nil))
          (pa_cons (pe_tup pa_nil) (pa_cons pe_dnewK (pa_cons pe_str (pa_cons (pe_ix ix_list (pv 1) pe_int (fun _ _ => rfl)) (pa_cons (pe_ix ix_list (pv 1) (pe_un un_neg pe_int) (fun _ _ => rfl)) pa_nil)))))))))))))))))))
      (pss_cons (ps_if (pt_cmpR op_eq (pv 4) pe_int (nomark _)) (pss_one (ps_ret (pe_slice sl_list (pv 3) po_none (po_some (pe_un un_neg pe_int))))) pss_nil)
      (pss_cons (ps_if (pt_cmpR op_eq (pv 4) pe_int (nomark _)) (pss_one (ps_ret (pe_callTy call_tuple_of (by rfl) T.tuple (by decide +kernel) (pa_cons (pe_op op_cat (pv 3) (pe_lst (pa_cons (pe_call GP hr2 (by rfl) gP kP bP .nil pass0 (pa_cons (pv 0) (pa_cons (pv 5) pa_nil))) pa_nil))) pa_nil)))) pss_nil)
      (pss_cons (ps_if (pt_cmpR op_eq (pv 4) pe_int (nomark _)) (pss_one (ps_ret (pe_op op_cat (pe_lst (pa_cons (pe_call GP hr2 (by rfl) gP kP bP .nil pass0 (pa_cons (pv 0) (pa_cons (pe_lst (pa_cons pe_non (pa_cons pe_str (pa_cons pe_str (pa_cons pe_str (pa_cons (pe_lst (pa_cons pe_str pa_nil)) (pa_cons pe_int (pa_cons pe_str (pa_cons pe_str (pa_cons pe_str (pa_cons pe_str pa_nil))))))))))) pa_nil))) pa_nil)) (pe_slice sl_list (pv 3) (po_some pe_int) po_none)))) pss_nil)
      (pss_cons (ps_if (pt_cmpR op_eq (pv 4) pe_int (nomark _)) (pss_one (ps_ret (pe_call GL hr (by rfl) gL kL bL .nil pass0 (pa_cons (pv 0) (pa_cons (pv 2) pa_nil))))) pss_nil)
      (pss_cons (ps_set (i := 6) nd rfl (Or.inl rfl) (pe_op op_add pe_int (pe_call GD hr1 (by rfl) gD kD bD .nil pass0 (pa_cons (pv 0) (pa_cons (pe_op op_sub (pe_callB call_len_seq (by rfl) T.len PySem.boot_len (pa_cons (pv 3) pa_nil)) pe_int) pa_nil)))))
      (pss_one (ps_ret (pe_op op_cat (pe_op op_cat (pe_slice sl_list (pv 3) po_none (po_some (pv 6))) (pe_lst (pa_cons (pe_call GP hr2 (by rfl) gP kP bP .nil pass0 (pa_cons (pv 0) (pa_cons (pv 5) pa_nil))) pa_nil))) (pe_slice sl_list (pv 3) (po_some (pe_op op_add (pv 6) pe_int)) po_none))))))))))  , ?_⟩
    refine ⟨_, rfl, t, xs, rfl, .inr (SqT.of ht), fun fo nfo => ?_⟩
    have fop : fo ≠ p := S.ne nfo
    have S1 : Src (upd H fo (.lst xs)) p := S.but nfo
    refine ⟨_, rfl, p, 5, rfl, S1, by decide, by decide, fun H2 way B2 S2 w0 w5 => ⟨_, _, rfl, ?_⟩⟩
    have g2 : H2 fo = some (.lst xs) := B2 _ _ fop upd_same
    have E2 : ButS p H H2 := (ButS.same (Same.new nfo)).trans B2
    obtain ⟨s0, sr, rfl⟩ : ∃ s0 sr, ss = s0 :: sr := by
      cases ss with
      | nil => exact absurd l2 (by decide)
      | cons a b => exact ⟨a, b, rfl⟩
    obtain ⟨ini, sl, el⟩ : ∃ ini sl, s0 :: sr = ini ++ [sl] := snoc_of _ (fun z => by cases z)
    refine ⟨1, rfl, 10, 12, rfl, rfl, ⟨by decide, by decide, by decide⟩, Nat.zero_le _, fun a1 n1 => ?_⟩
    have C1 : Same H2 (upd H2 a1 (.lst [])) := Same.new n1
    have i1 : Item (upd H2 a1 (.lst [])) (.ref a1) := .lst (s := []) upd_same (fun t m => by cases m) (by decide)
    generalize upd H2 a1 (.lst []) = J1 at C1 i1
    refine ⟨by show 1 ≤ sizeLine; decide, fun a2 n2 => ?_⟩
    have C2 := C1.trans (Same.new (u := .lst [.str "a"]) n2)
    have i12 := i1.same (Same.new (u := .lst [.str "a"]) n2)
    have i2 : Item (upd J1 a2 (.lst [.str "a"])) (.ref a2) := .lst (s := ["a"]) upd_same (by decide +kernel) (by decide)
    generalize upd J1 a2 (.lst [.str "a"]) = J2 at C2 i12 i2
    refine ⟨Nat.zero_le _, fun a3 n3 => ?_⟩
    have C3 := C2.trans (Same.new (u := .tup []) n3)
    have i13 := i12.same (Same.new (u := .tup []) n3)
    have i23 := i2.same (Same.new (u := .tup []) n3)
    have i3 : Item (upd J2 a3 (.tup [])) (.ref a3) := .tup upd_same
    generalize upd J2 a3 (.tup []) = J3 at C3 i13 i23 i3
    refine fun a4 n4 => ?_
    have C4 := C3.trans (Same.new (u := .dK []) n4)
    have i14 := i13.same (Same.new (u := .dK []) n4)
    have i24 := i23.same (Same.new (u := .dK []) n4)
    have i34 := i3.same (Same.new (u := .dK []) n4)
    have i4 : Item (upd J3 a4 (.dK [])) (.ref a4) := .dct upd_same
    generalize upd J3 a4 (.dK []) = J4 at C4 i14 i24 i34 i4
    have hn4 : SqL K J4 n ((s0 :: sr).map V.str) := C4.seq (SqL.but hn np E2)
    refine ⟨_, rfl, n, _, ((0 : Nat) : Int), .str s0, rfl, rfl, hn4, atI_nat rfl, _, rfl, 1, rfl, n, _, _, .str sl, rfl, rfl, hn4, ?_, by show 17 ≤ sizeLine; decide, fun od nod => ?_⟩
    · rw [el, List.map_append]
      exact atI_last _ _
    have m0 : s0 ∈ texts := hss s0 (List.mem_cons_self ..)
    have ml : sl ∈ texts := hss sl (by rw [el]; exact List.mem_append_right _ (List.mem_singleton.mpr rfl))
    have S4 : Src J4 p := by
      obtain ⟨x, y, z, hp⟩ := S2
      exact ⟨x, y, z, C4 _ _ hp⟩
    have odp : od ≠ p := S4.ne nod
    have C5 := C4.trans (Same.new (u := .lst [.non, .int 0, .int (-1), .bl true, .int 1, .int 2, .int (10 ^ Int.toNat 12), .str "", .str "1", .str "nobody", .ref a1, .ref a2, .ref a3, .ref a4, .str "move", .str s0, .str sl]) nod)
    have god : (upd J4 od (.lst [.non, .int 0, .int (-1), .bl true, .int 1, .int 2, .int (10 ^ Int.toNat 12), .str "", .str "1", .str "nobody", .ref a1, .ref a2, .ref a3, .ref a4, .str "move", .str s0, .str sl])) od = some (.lst [.non, .int 0, .int (-1), .bl true, .int 1, .int 2, .int (10 ^ Int.toNat 12), .str "", .str "1", .str "nobody", .ref a1, .ref a2, .ref a3, .ref a4, .str "move", .str s0, .str sl]) := upd_same
    have hL : ∀ y ∈ [V.non, .int 0, .int (-1), .bl true, .int 1, .int 2, .int (10 ^ Int.toNat 12), .str "", .str "1", .str "nobody", .ref a1, .ref a2, .ref a3, .ref a4, .str "move", .str s0, .str sl], Item J4 y :=
      all_cons .non (all_cons (.flat (flat_i _ (by decide))) (all_cons (.flat (flat_i _ (by decide))) (all_cons (.bl _) (all_cons (.flat (flat_i _ (by decide))) (all_cons (.flat (flat_i _ (by decide))) (all_cons (.flat (flat_i _ (by decide))) (all_cons (.flat (flat_s _ (by decide +kernel))) (all_cons (.flat (flat_s _ (by decide +kernel))) (all_cons (.flat (flat_s _ (by decide +kernel)))
        (all_cons i14 (all_cons i24 (all_cons i34 (all_cons i4 (all_cons (.flat (flat_s _ (by decide +kernel))) (all_cons (.flat (flat_s _ m0)) (all_cons (.flat (flat_s _ ml)) all_nil))))))))))))))))
    have lenL : [V.non, .int 0, .int (-1), .bl true, .int 1, .int 2, .int (10 ^ Int.toNat 12), .str "", .str "1", .str "nobody", .ref a1, .ref a2, .ref a3, .ref a4, .str "move", .str s0, .str sl].length = 17 := rfl
    have E5 : ButS p H (upd J4 od (.lst [.non, .int 0, .int (-1), .bl true, .int 1, .int 2, .int (10 ^ Int.toNat 12), .str "", .str "1", .str "nobody", .ref a1, .ref a2, .ref a3, .ref a4, .str "move", .str s0, .str sl])) := E2.trans (ButS.same C5)
    have hL5 : ∀ y ∈ [V.non, .int 0, .int (-1), .bl true, .int 1, .int 2, .int (10 ^ Int.toNat 12), .str "", .str "1", .str "nobody", .ref a1, .ref a2, .ref a3, .ref a4, .str "move", .str s0, .str sl], Item (upd J4 od (.lst [.non, .int 0, .int (-1), .bl true, .int 1, .int 2, .int (10 ^ Int.toNat 12), .str "", .str "1", .str "nobody", .ref a1, .ref a2, .ref a3, .ref a4, .str "move", .str s0, .str sl])) y := fun y m => (hL y m).same (Same.new nod)
    have S5 := S4.but (u := .lst [.non, .int 0, .int (-1), .bl true, .int 1, .int 2, .int (10 ^ Int.toNat 12), .str "", .str "1", .str "nobody", .ref a1, .ref a2, .ref a3, .ref a4, .str "move", .str s0, .str sl]) nod
    have g5 := C5 _ _ g2
    show tSeq _ _ _ _ (upd J4 od (.lst [.non, .int 0, .int (-1), .bl true, .int 1, .int 2, .int (10 ^ Int.toNat 12), .str "", .str "1", .str "nobody", .ref a1, .ref a2, .ref a3, .ref a4, .str "move", .str s0, .str sl]))
    generalize upd J4 od (.lst [.non, .int 0, .int (-1), .bl true, .int 1, .int 2, .int (10 ^ Int.toNat 12), .str "", .str "1", .str "nobody", .ref a1, .ref a2, .ref a3, .ref a4, .str "move", .str s0, .str sl]) = J5 at E5 hL5 S5 g5 god ⊢
    clear hL i14 i24 i34 i4 C4 C5 hn4 C1 C2 C3 i13 i23 i3 i12 i2 i1
    generalize [V.non, .int 0, .int (-1), .bl true, .int 1, .int 2, .int (10 ^ Int.toNat 12), .str "", .str "1", .str "nobody", .ref a1, .ref a2, .ref a3, .ref a4, .str "move", .str s0, .str sl] = L at hL5 god lenL
    have done : ∀ {J : Hp} {R : Addr} {tp : Bool} {ys : List V}, ButS p H J → Src J p → J R = none → (∀ y ∈ ys, Item J y) → ys.length ≤ 20 → Q (.ref R) (upd J R (mkX tp ys)) := fun b s nR hy hl => q _ _ _ _ (b.trans (ButS.same (Same.new nR))) (s.but nR) (b.free2 s nR) upd_same (fun y m => (hy y m).same (Same.new nR)) hl
    have hxi : ∀ {J : Hp}, ∀ y ∈ xs, Item J y := fun y m => .flat (hx y m)
    have cutL : ∀ lo hi, (cutV xs lo hi).length ≤ 5 := fun lo hi => Nat.le_trans (cutV_length xs lo hi) x5
    refine ⟨_, rfl, rfl, _, rfl, ?_⟩
    refine ite2 (fun _ => ?_) (fun _ => ?_)
    · exact ⟨_, rfl, 1, rfl, _, rfl, fo, xs, rfl, SqL.of g5, fun R nR => done (tp := false) E5 S5 nR (fun y m => hxi y (cut_mem m)) (Nat.le_trans (cutL _ _) (by decide))⟩
    refine ⟨_, rfl, rfl, _, rfl, ?_⟩
    refine ite2 (fun _ => ?_) (fun _ => ?_)
    · refine ⟨_, rfl, _, rfl, _, rfl, p, od, L, rfl, S5, SqL.of god, odp, by omega, by omega, fun J6 j y B6 S6 hy => ⟨by show 1 ≤ sizeLine; decide, fun l nl => ?_⟩⟩
      have g6 : J6 fo = some (.lst xs) := B6 _ _ fop g5
      have iy : Item J6 y := (hL5 y (List.mem_of_getElem? hy)).but S5 B6
      refine ⟨fo, l, xs, [y], rfl, rfl, Same.new nl _ _ g6, upd_same, by rw [sizeLine_eq, List.length_singleton]; omega, fun R nR => ⟨R, _, rfl, .inl ⟨SqL.of upd_same, fun R2 nR2 => ?_⟩⟩⟩
      refine done (tp := true) (((E5.trans B6).trans (ButS.same (Same.new nl))).trans (ButS.same (Same.new nR))) ((S6.but nl).but nR) nR2 (fun z m => ?_) (by rw [List.length_append, List.length_singleton]; omega)
      rcases List.mem_append.mp m with e | e
      · exact hxi z e
      · rw [List.mem_singleton.mp e]
        exact (iy.same (Same.new nl)).same (Same.new nR)
    refine ⟨_, rfl, rfl, _, rfl, ?_⟩
    refine ite2 (fun _ => ?_) (fun _ => ?_)
    · refine ⟨_, rfl, by show 1 ≤ sizeLine; decide, fun b1 k1 => ⟨by show 10 ≤ sizeLine; decide, fun bl kbl => ?_⟩⟩
      have ib : Item (upd J5 b1 (.lst [.str "make"])) (.ref b1) := .lst (s := ["make"]) upd_same (by decide +kernel) (by decide)
      have D1 := (Same.new (u := .lst [.str "make"]) k1).trans (Same.new (u := .lst [.non, .str "", .str "mend", .str "MAKE", .ref b1, .int 5, .str "wait", .str "end", .str "drop", .str "swap"]) kbl)
      have hB : ∀ y ∈ [V.non, .str "", .str "mend", .str "MAKE", .ref b1, .int 5, .str "wait", .str "end", .str "drop", .str "swap"], Item (upd (upd J5 b1 (.lst [.str "make"])) bl (.lst [.non, .str "", .str "mend", .str "MAKE", .ref b1, .int 5, .str "wait", .str "end", .str "drop", .str "swap"])) y :=
        all_cons .non (all_cons (.flat (flat_s _ (by decide +kernel))) (all_cons (.flat (flat_s _ (by decide +kernel))) (all_cons (.flat (flat_s _ (by decide +kernel))) (all_cons (ib.same (Same.new kbl)) (all_cons (.flat (flat_i _ (by decide))) (all_cons (.flat (flat_s _ (by decide +kernel))) (all_cons (.flat (flat_s _ (by decide +kernel))) (all_cons (.flat (flat_s _ (by decide +kernel))) (all_cons (.flat (flat_s _ (by decide +kernel))) all_nil)))))))))
      have lenB : [V.non, .str "", .str "mend", .str "MAKE", .ref b1, .int 5, .str "wait", .str "end", .str "drop", .str "swap"].length = 10 := rfl
      have gbl : (upd (upd J5 b1 (.lst [.str "make"])) bl (.lst [.non, .str "", .str "mend", .str "MAKE", .ref b1, .int 5, .str "wait", .str "end", .str "drop", .str "swap"])) bl = some (.lst [.non, .str "", .str "mend", .str "MAKE", .ref b1, .int 5, .str "wait", .str "end", .str "drop", .str "swap"]) := upd_same
      have SB := (S5.but (u := .lst [.str "make"]) k1).but (u := .lst [.non, .str "", .str "mend", .str "MAKE", .ref b1, .int 5, .str "wait", .str "end", .str "drop", .str "swap"]) kbl
      have blp : bl ≠ p := (S5.but k1).ne kbl
      generalize upd (upd J5 b1 (.lst [.str "make"])) bl (.lst [.non, .str "", .str "mend", .str "MAKE", .ref b1, .int 5, .str "wait", .str "end", .str "drop", .str "swap"]) = JB at D1 hB gbl SB
      refine ⟨p, bl, _, rfl, SB, SqL.of gbl, blp, by rw [lenB]; decide, by rw [lenB]; decide, fun J6 j y B6 S6 hy => ⟨by show 1 ≤ sizeLine; decide, fun l nl => ?_⟩⟩
      have iy : Item J6 y := (hB y (List.mem_of_getElem? hy)).but SB B6
      have g6 : J6 fo = some (.lst xs) := B6 _ _ fop (D1 _ _ g5)
      refine ⟨_, rfl, 1, rfl, fo, xs, rfl, SqL.of (Same.new nl _ _ g6), fun c nc => ?_⟩
      have l1 := cutL (some 1) none
      refine ⟨l, c, [y], cutV xs (some 1) none, rfl, rfl, Same.new nc _ _ upd_same, upd_same, by rw [sizeLine_eq, List.length_singleton]; omega, fun R nR => ?_⟩
      refine done (tp := false) ((((E5.trans (ButS.same D1)).trans B6).trans (ButS.same (Same.new nl))).trans (ButS.same (Same.new nc))) ((S6.but nl).but nc) nR (fun z m => ?_) (by rw [List.length_append, List.length_singleton]; omega)
      rcases List.mem_append.mp m with e | e
      · rw [List.mem_singleton.mp e]
        exact (iy.same (Same.new nl)).same (Same.new nc)
      · exact hxi z (cut_mem e)
    refine ⟨_, rfl, rfl, _, rfl, ?_⟩
    refine ite2 (fun _ => ?_) (fun _ => ?_)
    · have tp : t ≠ p := fun z => by
        obtain ⟨d, u, c, hp⟩ := S
        rw [z, hp] at ht
        cases ht
      exact ⟨_, rfl, _, rfl, .inr ⟨trivial, p, t, xs, rfl, S5, E5 _ _ tp ht, hx, by omega, fun J6 D tp B6 S6 nD gD' => q J6 D tp xs (E5.trans B6) S6 (E5.free2 S5 nD) gD' hxi (by omega)⟩⟩
    · refine ⟨_, rfl, _, rfl, fo, xs, rfl, .inl (SqL.of g5), _, 1, rfl, rfl, p, _, rfl, S5, by omega, by omega, fun J6 n B6 S6 n0 n1 => ⟨1, n, rfl, rfl, ?_⟩⟩
      have g6 : J6 fo = some (.lst xs) := B6 _ _ fop g5
      have god6 : J6 od = some (.lst L) := B6 _ _ odp god
      refine ⟨_, rfl, _, rfl, _, rfl, fo, xs, rfl, SqL.of g6, fun c nc => ?_⟩
      have c1 := cutL none (some (1 + n))
      generalize hcl : cutV xs none (some (1 + n)) = cl at c1
      have hcli : ∀ {J : Hp}, ∀ y ∈ cl, Item J y := fun y m => hxi y (cut_mem (hcl ▸ m))
      have gc : (upd J6 c (.lst cl)) c = some (.lst cl) := upd_same
      have E7 := (E5.trans B6).trans (ButS.same (Same.new (u := .lst cl) nc))
      have S7 := S6.but (u := .lst cl) nc
      have g7 := Same.new (u := .lst cl) nc _ _ g6
      have god7 := Same.new (u := .lst cl) nc _ _ god6
      have hL7 : ∀ y ∈ L, Item (upd J6 c (.lst cl)) y := fun y m => ((hL5 y m).but S5 B6).same (Same.new nc)
      have cp : c ≠ p := S6.ne nc
      generalize upd J6 c (.lst cl) = J7 at gc E7 S7 g7 god7 hL7
      refine ⟨_, rfl, _, rfl, p, od, L, rfl, S7, SqL.of god7, odp, by omega, by omega, fun J8 j y B8 S8 hy => ⟨by show 1 ≤ sizeLine; decide, fun l nl => ?_⟩⟩
      have iy : Item J8 y := (hL7 y (List.mem_of_getElem? hy)).but S7 B8
      refine ⟨c, l, cl, [y], rfl, rfl, Same.new nl _ _ (B8 _ _ cp gc), upd_same, by rw [sizeLine_eq, List.length_singleton]; omega, fun c2 nc2 => ?_⟩
      have g8 : (upd (upd J8 l (.lst [y])) c2 (.lst (cl ++ [y]))) fo = some (.lst xs) := Same.new nc2 _ _ (Same.new nl _ _ (B8 _ _ fop g7))
      refine ⟨_, rfl, _, rfl, _, 1, rfl, rfl, _, rfl, fo, xs, rfl, SqL.of g8, fun c3 nc3 => ?_⟩
      have c4 := cutL (some (1 + n + 1)) none
      refine ⟨c2, c3, cl ++ [y], _, rfl, rfl, Same.new nc3 _ _ upd_same, upd_same, by rw [sizeLine_eq, List.length_append, List.length_singleton]; omega, fun R nR => ?_⟩
      refine done (tp := false) ((((E7.trans B8).trans (ButS.same (Same.new nl))).trans (ButS.same (Same.new nc2))).trans (ButS.same (Same.new nc3))) (((S8.but nl).but nc2).but nc3) nR (fun z m => ?_) (by rw [List.length_append, List.length_append, List.length_singleton]; omega)
      rcases List.mem_append.mp m with e | e
      · rcases List.mem_append.mp e with e2 | e2
        · exact hcli z e2
        · rw [List.mem_singleton.mp e2]
          exact ((iy.same (Same.new nl)).same (Same.new nc2)).same (Same.new nc3)
      · exact hxi z (cut_mem e)
end
end OB
namespace OB
open PySem PySem.Spec PyProof.Rows L2
/-! ### try .. except X as n .. except Y as n: one of the two always -/
def wTwo (K : PySem.W.Frag) (c1 c2 : Value) (i : Nat) (t1 t2 : Addr → Value → Option Addr → TS) (D : Ends) : WX := fun cls d σ H =>
  ∀ a, H a = none → i < σ.length → (PySem.W.exmOne K cls c1 = some true ∧ t1 a cls d { nx := fun σ' G => D.nx (σ'.set i none) G, rt := D.rt, bk := fun σ' G => D.bk (σ'.set i none) G, ct := fun σ' G => D.ct (σ'.set i none) G } (σ.set i (some (.ref a))) H) ∨
    (PySem.W.exmOne K cls c1 = some false ∧ PySem.W.exmOne K cls c2 = some true ∧ t2 a cls d { nx := fun σ' G => D.nx (σ'.set i none) G, rt := D.rt, bk := fun σ' G => D.bk (σ'.set i none) G, ct := fun σ' G => D.ct (σ'.set i none) G } (σ.set i (some (.ref a))) H)
section
variable {X : Cx} {x1 x2 n : Str} {c1 c2 : Value} {i : Nat} {body s1 s2 : List Stmt} {b1 b2 : Stmt} {np1 np2 pos p1 p2 : Pos} {tb : WX → TS} {t1 t2 : Addr → Value → Option Addr → TS}
theorem ps_try_as2 (hst : X.stack = X.env :: X.outer) (hfr : X.env.frame = some X.env.locals) (nd : X.N.Nodup) (hi : X.N[i]? = some n) (hk : X.env.kindOf n = some .local) (h1 : Names X x1 c1) (h2 : Names X x2 c2)
    (hb : ∀ (W : WX) (pn : List (Addr × Obj)) (xe : Value → Shared → Prop), Takes (X.tr pn xe) W → PassesOwn (model X.prog X.w) X.A X.env xe → PSs (X.tr pn xe) body (tb W))
    (hs1 : ∀ (a : Addr) (oe : Obj) (cls : Value) (d : Option Addr) (pn : List (Addr × Obj)), Zc cls d oe → (∃ vs, oe.data = .fields vs) → PSs (X.suite a ((a, oe) :: pn)) (b1 :: s1) (t1 a cls d))
    (hs2 : ∀ (a : Addr) (oe : Obj) (cls : Value) (d : Option Addr) (pn : List (Addr × Obj)), Zc cls d oe → (∃ vs, oe.data = .fields vs) → PSs (X.suite a ((a, oe) :: pn)) (b2 :: s2) (t2 a cls d)) :
    PS X (.Try body [.ExceptHandler (some (.Name x1 np1)) (some n) (b1 :: s1) p1, .ExceptHandler (some (.Name x2 np2)) (some n) (b2 :: s2) p2] [] [] pos) (fun D σ H => tb (wTwo X.K c1 c2 i t1 t2 D) D σ H) := by
  refine ⟨fun pins s σ H D I hq => ?_⟩
  have ok0 := I.ok
  have fr0 : X.A.frames = some (X.env :: X.outer) := ok0.frames.trans (congrArg some hst)
  have loc0 : Loc X.env.scope n := .inl hk
  refine wpAny_Try_except (wpAny_mono ((hb (wTwo X.K c1 c2 i t1 t2 D) (X.pn ++ pins) (fun e z1 => wpAny (model X.prog X.w) X.A (noteFrame e X.env) (fun _ z2 => wpAny (model X.prog X.w) X.A (setFlight e none) (fun _ z3 =>
    wpAny (model X.prog X.w) X.A (handleBy e X.env [.ExceptHandler (some (.Name x1 np1)) (some n) (b1 :: s1) p1, .ExceptHandler (some (.Name x2 np2)) (some n) (b2 :: s2) p2]) (SP X pins D) X.xe z3) X.xe z2) X.xe z1) (fun u z xx => ?_) PassesOwn.looking).run [] s σ H D (I.toTry _) hq) (fun f z fin => ?_) (fun e z he => he))
  · obtain ⟨a, B, sI, pins2, σ2, G, cls, d, rfl, I2, nb, up, sky, na, os, ag, wish⟩ := xx
    have I3 : Inv X pins σ2 G sI := I2.ofTry ok0
    have sky2 : Sky B (X.env :: X.outer) a (Zc cls d) X.env.locals z.heap := hst ▸ sky
    show wpAny _ X.A (noteFrame (.ref a) X.env) _ _ z
    refine Sky.land Zc.steady fr0 hfr sky2 fun g fl upg => ?_
    have I4 : Inv X pins σ2 G { z with heap := g } := I3.landed nb fl.1 (up.trans upg) os ag
    obtain ⟨oe, vs, he, hz, hd⟩ := fl.there
    have noF : ∀ {h : Heap} {o : Obj} {ws : Array Value}, h.FunFrames B (X.env :: X.outer) → h.get? a = some o → o.data = .fields ws → a ∉ frs (X.env :: X.outer) := fun ff e1 dd hm => by
      obtain ⟨_, o2, e2, no⟩ := ff.mem hm
      rw [e1] at e2
      cases e2
      exact no _ dd
    have nF := noF fl.2.2.1 he hd
    have nLo : a ≠ X.env.locals := fun y => nF (List.mem_filterMap.mpr ⟨X.env, List.mem_cons_self, hfr.trans (congrArg some y.symm)⟩)
    have nFs : a ∉ X.fs := fun hm => by
      obtain ⟨ev, me, q⟩ := List.mem_filterMap.mp hm
      exact nF (List.mem_filterMap.mpr ⟨ev, List.mem_cons_of_mem _ me, q⟩)
    have IS := I4.suite he hd na nLo nFs
    have LT : PySem.W.Looks (model X.prog X.w) g (typeOf (.ref a)) cls := fun A0 Q0 E0 s0 kk q => wpAny_typeOf_ref (kk _ _ he) (hz.1.symm ▸ q)
    have test : ∀ {x : Str} {c : Value} {np : Pos}, Names X x c → ∀ {Q : Value → Shared → Prop} {E : Value → Shared → Prop}, Q c { z with heap := g } → wpAny (model X.prog X.w) (X.A.mark (some (.ref a))) (eval (.Name x np) X.env) Q E { z with heap := g } := fun {x c np} hc {Q E} q => by
      rcases hc with ⟨hg, hdb, hm | ⟨hm, hv, hnn⟩⟩
      · exact ld_glob (X := X.suite a ((a, oe) :: (X.pn ++ pins))) IS hg hm q hdb
      · exact ld_blt (X := X.suite a ((a, oe) :: (X.pn ++ pins))) IS hg hm hv q hnn hdb
    rcases wish a na (by rw [I3.len]; exact (List.getElem?_eq_some_iff.mp hi).1) with ⟨e1, hts⟩ | ⟨e1, e2, hts⟩
    all_goals
      have LM := PySem.W.exm_one (M := model X.prog X.w) I4.kIn LT e1
      refine wpAny_handleBy_cons (codeAny_handlers_test (test h1 (LM.here ?_))) (fun q => by cases q)
    all_goals first
      | (have hsu := hs2
         have LM2 := PySem.W.exm_one (M := model X.prog X.w) I4.kIn LT e2
         show wpAny _ X.A (handleBy (.ref a) X.env _) _ _ _
         refine wpAny_handleBy_cons (codeAny_handlers_test (test h2 (LM2.here ?_))) (fun q => by cases q))
      | have hsu := hs1
    all_goals
      refine codeAny_handlers_suite_as (HandSPX.lands_againZ fl fun k flk upk => ?_)
      have I5 : Inv X pins σ2 G { z with heap := k } := I3.landed nb flk.1 ((up.trans upg).trans upk) os ag
      obtain ⟨oe5, vs5, he5, hz5, hd5⟩ := flk.there
      have IS5 := I5.suite he5 hd5 na nLo nFs
      refine store_ok (X := X.suite a ((a, oe5) :: (X.pn ++ pins))) (v := .ref a) IS5 nd hi loc0 rfl (fun z5 Z5 => ?_) (.inr hk)
      have close_ : ∀ {σ6 : L2.St} {H6 : Hp} {z6 : Shared} {pz : Pos} {Q : Shared → Prop}, Inv (X.suite a ((a, oe5) :: (X.pn ++ pins))) [] σ6 H6 z6 → (∀ z7, Inv X pins (σ6.set i none) H6 z7 → Q z7) →
          wpAny (model X.prog X.w) X.A (do bindName X.env n .none; unbindBehindTheSuite X.env n pz) (fun _ z7 => Q z7) X.xe z6 := fun Z6 hq6 => gone_ok (Z6.unsuite ok0) nd hi hk hq6
      refine wpAny_mono ((hsu a oe5 cls d (X.pn ++ pins) hz5 ⟨_, hd5⟩).run [] z5 _ G _ Z5 hts) (fun f z6 hsp => ?_) (fun _ _ y => y.elim)
      cases f with
      | next =>
        obtain ⟨σ6, H6, Z6, q6⟩ := hsp
        exact close_ Z6 fun _ Z7 => ⟨_, _, Z7, q6⟩
      | brk =>
        obtain ⟨σ6, H6, Z6, q6⟩ := hsp
        exact close_ Z6 fun _ Z7 => ⟨_, _, Z7, q6⟩
      | cont =>
        obtain ⟨σ6, H6, Z6, q6⟩ := hsp
        exact close_ Z6 fun _ Z7 => ⟨_, _, Z7, q6⟩
      | ret u =>
        obtain ⟨v6, σ6, H6, Z6, r6, q6⟩ := hsp
        exact close_ Z6 fun _ Z7 => ⟨_, _, _, Z7, r6, q6⟩
  · cases f with
    | next =>
      obtain ⟨σ', H', J', q⟩ := fin
      exact wpAny_execs_nil ⟨σ', H', J'.ofTry ok0, q⟩
    | brk =>
      obtain ⟨σ', H', J', q⟩ := fin
      exact ⟨σ', H', J'.ofTry ok0, q⟩
    | cont =>
      obtain ⟨σ', H', J', q⟩ := fin
      exact ⟨σ', H', J'.ofTry ok0, q⟩
    | ret u =>
      obtain ⟨v, σ', H', J', r, q⟩ := fin
      exact ⟨v, σ', H', J'.ofTry ok0, r, q⟩
end
end OB
namespace OB
open PySem PySem.Spec PyProof.Rows L2 LamX
/-! ### what is told, or what is refused -/
abbrev sMet : Stmt := top 55
def told2 (Q : VK) (x : Str) : V → Hp → Prop := fun v G => 2 ≤ sizeLine ∧ ∀ T, G T = none → Q (.ref T) (upd G T (.tup [.str x, v]))
def EchM (CA CM : Addr) (Q : VK) : XK := fun cls d G => (cls = .ref CA ∧ ∃ dd v, d = some dd ∧ G dd = some (.xd [("index", v)]) ∧ told2 Q "addresses" v G) ∨ (cls = .ref CM ∧ ∃ dd v, d = some dd ∧ G dd = some (.xd [("most", v)]) ∧ told2 Q "most" v G)
def TTMet (CA CM : Addr) : (XK → Hp → VK → Prop) → Hp → VK → Prop := fun tl H Q => tl (EchM CA CM Q) H fun v G => told2 Q "told" v G
structure MetK (K : PySem.W.Frag) (mg : Str → Option Value) (CA CM : Addr) : Prop where
  gA : mg "BadAddresses" = some (.ref CA)
  gM : mg "BadMost" = some (.ref CM)
  xA : XfC K CA
  xM : XfC K CM
  fA : PySem.W.findIn K (.ref CA) "index" = some none
  fM : PySem.W.findIn K (.ref CM) "most" = some none
  aa : PySem.W.exmOne K (.ref CA) (.ref CA) = some true
  ma : PySem.W.exmOne K (.ref CM) (.ref CA) = some false
  mm : PySem.W.exmOne K (.ref CM) (.ref CM) = some true
theorem scMet : FnScope ["ask", "e"] ["ask"] (defScope sMet) := ⟨rfl, rfl, rfl, by decide +kernel, rfl, by decide +kernel, by decide +kernel⟩
section
variable {X : Cx}
theorem met_gives {q : Str} {g CA CM : Addr} {cdg : Value} (M : MetK X.K X.mg CA CM) : GivesTo X ["ask", "e"] "_law_met" (defScope sMet) g cdg (defBody sMet) "ask" q (TTMet CA CM) := by
  intro f c' s H Q tl act hc h
  have nd := scMet.nd
  refine ⟨_, pss_one (ps_try_as2 (i := 1) (c1 := .ref CA) (c2 := .ref CM) (X := (cxOf C8.CX0 X.prog X.w X.K X.mg X.base ["ask", "e"] "_law_met" (defScope sMet) g cdg X.A X.stack s H C8.E0).nox)
      (tb := fun W D σ G => ∃ Ech : XK, (∀ cls d σ' H', Ech cls d H' → W cls d σ' H') ∧ σ[0]? = some (some (.ref f)) ∧ G c' = some (CodeO c' q) ∧ tl Ech G fun v G2 => told2 D.rt "told" v G2)
      rfl rfl nd rfl rfl ⟨by rfl, by decide, .inl M.gA⟩ ⟨by rfl, by decide, .inl M.gM⟩ (fun W pn xe tk _ => ?_)
      (fun a oe cls d pn hz hf => pss_one (ps_ret (pe_tup (pa_cons pe_str (pa_cons (pe_xf M.xA M.fA hz hf (pv 1)) pa_nil)))))
      (fun a oe cls d pn hz hf => pss_one (ps_ret (pe_tup (pa_cons pe_str (pa_cons (pe_xf M.xM M.fM hz hf (pv 1)) pa_nil)))))), ?_⟩
  · refine ⟨fun pins s' σ H' D I h' => ?_⟩
    obtain ⟨Ech, hW, h1, h2, h3⟩ := h'
    exact (pss_one (ps_ret (pe_tup (pa_cons pe_str (pa_cons (act W pn xe Ech _ _ tk hW) pa_nil))))).run pins s' σ H' D I ⟨h1, h2, h3⟩
  · refine ⟨EchM CA CM Q, fun cls d σ' G z => fun a na li => ?_, rfl, hc, h⟩
    rcases z with ⟨rfl, dd, v, rfl, gd, q1, q2⟩ | ⟨rfl, dd, v, rfl, gd, q1, q2⟩
    · refine .inl ⟨M.aa, _, ?_, rfl, rfl, dd, _, v, rfl, gd, by simp [List.lookup], q1, q2⟩
      rw [List.getElem?_set_self li]
    · refine .inr ⟨M.ma, M.mm, _, ?_, rfl, rfl, dd, _, v, rfl, gd, by simp [List.lookup], q1, q2⟩
      rw [List.getElem?_set_self li]
end
end OB
namespace OB
open PySem PySem.Spec PyProof.Rows L2
/-! ### lands of good names -/
def nameTexts : List Str := "other" :: seven
structure GoodN (ss : List Str) : Prop where
  inn : ∀ s ∈ ss, s ∈ nameTexts
  nd : ss.Nodup
  two : 2 ≤ ss.length
  few : ss.length ≤ 7
theorem nd_at {ss : List Str} (nd : ss.Nodup) {i j : Nat} (hi : i < ss.length) (hj : j < ss.length) (h : i < j) : ss[i] ≠ ss[j] := List.pairwise_iff_getElem.mp nd i j hi hj h
theorem names_good : ∀ s ∈ nameTexts, isNameS s = true ∧ s.length ≤ 100 ∧ PyData.canLay0 (.str s) = true := by decide +kernel
theorem GoodN.lay {ss : List Str} (g : GoodN ss) : ∀ s ∈ ss, PyData.canLay0 (.str s) = true := fun s m => (names_good s (g.inn s m)).2.2
theorem GoodN.odd {ss : List Str} (g : GoodN ss) : ∀ j, j < (ss.map V.str).length → oddAt (ss.map V.str) j = false := fun j hj => by
  rw [List.length_map] at hj
  unfold oddAt
  rw [List.getElem?_map, List.getElem?_eq_getElem hj]
  show (!isNameS ss[j] || _) = false
  rw [(names_good _ (g.inn _ (List.getElem_mem hj))).1, ← List.map_take]
  show (false || decide (V.str ss[j] ∈ (ss.take j).map V.str)) = false
  rw [Bool.false_or]
  refine decide_eq_false fun m => ?_
  obtain ⟨s, ms, e⟩ := List.mem_map.mp m
  rw [V.str.inj e] at ms
  obtain ⟨i, hi, q⟩ := List.getElem_of_mem ms
  rw [List.getElem_take] at q
  rw [List.length_take] at hi
  exact nd_at g.nd (by omega) hj (by omega) q
theorem GoodN.any {K : PySem.W.Frag} {H : Hp} {ss : List Str} (g : GoodN ss) : AllAny K H (ss.map V.str) := fun x m => by
  obtain ⟨s, ms, rfl⟩ := List.mem_map.mp m
  exact ⟨.str, .str (names_good s (g.inn s ms)).2.1⟩
theorem anyX {K : PySem.W.Frag} {H : Hp} {a : Addr} {tp : Bool} {xs : List V} (h : H a = some (mkX tp xs)) : ∃ k, Any K H (.ref a) k ∧ fSeq (.ref a) k = true := by
  cases tp with
  | true => exact ⟨.tup, .tup h, rfl⟩
  | false => exact ⟨.lst, .lst h, rfl⟩
def noE : XK := fun _ _ _ => False
theorem pass_no {X : Cx} : Passes (L2.CX X.prog X.w) X noE := fun _ _ _ _ _ _ _ h => by
  obtain ⟨_, _, _, _, _, _, _, _, _, _, _, _, z⟩ := h
  exact z.elim
theorem mkLand {K : PySem.W.Frag} {C CA CM x dx a : Addr} {H : Hp} {tp : Bool} {ss : List Str} {m : Int} {Q : VK} (g : GoodN ss) (hm : 1 ≤ m) (hx : H x = some (.ins C dx [])) (ha : H a = some (mkX tp (ss.map V.str))) (q : ∀ H', ButS x H H' → LandAt H' C x (ss.map V.str) m → Q .non H') :
    spLandInit K C CA CM [.ref x, .ref a, .int m] H Q noE := by
  obtain ⟨k, ak, fk⟩ := anyX (K := K) ha
  refine ⟨x, dx, .ref a, .int m, k, .int, rfl, hx, ak, .int m, (fun h => by rw [fk] at h; cases h), fun _ => ⟨a, tp, ss.map V.str, rfl, SqX.at ha, g.any, by rw [List.length_map]; have := g.few; omega, fun i H' d due _ _ _ => ?_, fun _ _ => ⟨fun h => ?_, fun i e hi H' b l => ?_⟩⟩⟩
  · obtain ⟨d1, d2, d3, d4⟩ := due
    rcases Nat.lt_or_eq_of_le d1 with z | z
    · have y := d3 z
      rw [g.odd i z] at y
      cases y
    · have y := d4 z
      have two := g.two
      rw [List.length_map] at y
      omega
  · have y : decide (1 ≤ m) = false := h
    rw [decide_eq_true hm] at y
    cases y
  · rw [← V.int.inj e] at l
    exact q H' b l
theorem made_same {H1 H' : Hp} {x dx : Addr} {u v : HO} (nx : H1 x = none) (ndx : H1 dx = none) (b : ButS x (upd (upd H1 dx u) x v) H') : Same H1 H' := fun c o e => by
  have cx := ne_of_none e nx
  exact b c o cx (by rw [upd_ne cx, upd_ne (ne_of_none e ndx)]; exact e)
/-- what the class of lands says for != and beside other things -/
structure LandF (K : PySem.W.Frag) (C fE : Addr) : Prop where
  E : LandE K C fE
  ne : PySem.W.findIn K (.ref C) "__ne__" = some (some (.builtin "object.__ne__"))
  ob : PySem.W.subIn K (.ref C) (.type "object") = some true
  kf : ∀ T ∈ ["NoneType", "int", "list", "dict", "function"], PySem.W.kitOne K (.type T) (.ref C) = some false
/-- y beside the land of ss and m: equal or not -/
def Beside (K : PySem.W.Frag) (C : Addr) (H : Hp) (ss : List Str) (m : Int) (b : Bool) (y : V) : Prop := ∃ t, TyA K H y t ∧ PySem.W.notFirst K C t = true ∧
  ((∃ oy ts my, y = .ref oy ∧ LandAt H C oy (ts.map V.str) my ∧ (∀ s ∈ ts, PyData.canLay0 (.str s) = true) ∧ PySem.W.kitOne K t (.ref C) = some true ∧ decide (ss = ts ∧ m = my) = b) ∨ (PySem.W.kitOne K t (.ref C) = some false ∧ b = false))
theorem Beside.spec {K : PySem.W.Frag} {C o : Addr} {H : Hp} {ss : List Str} {m : Int} {b : Bool} {y : V} {Q : VK} (h : Beside K C H ss m b y) (l : LandAt H C o (ss.map V.str) m) (hs : ∀ s ∈ ss, PyData.canLay0 (.str s) = true) (q : Q (.bl b) H) : spLandEq K C [.ref o, y] H Q E0 := by
  obtain ⟨t, ty, nf, z⟩ := h
  refine ⟨o, ss, m, y, t, rfl, l, hs, ty, ?_⟩
  rcases z with ⟨oy, ts, my, rfl, ly, hy, kt, e⟩ | ⟨kt, rfl⟩
  · exact .inl ⟨oy, ts, my, rfl, ly, hy, kt, by rw [e]; exact q⟩
  · exact .inr ⟨kt, q⟩
theorem Beside.eq {K : PySem.W.Frag} {C o : Addr} {H : Hp} {ss : List Str} {m : Int} {b : Bool} {y : V} {Q : VK} (h : Beside K C H ss m b y) (l : LandAt H C o (ss.map V.str) m) (hs : ∀ s ∈ ss, PyData.canLay0 (.str s) = true) (q : Q (.bl b) H) : rEqO K C (spLandEq K C) (.ref o) y H Q := by
  obtain ⟨t, ty, nf, _⟩ := id h
  obtain ⟨dx, T, h1, _⟩ := id l
  exact ⟨o, dx, _, t, rfl, h1, ty, nf, h.spec l hs ⟨b, rfl, q⟩⟩
theorem Beside.neq {K : PySem.W.Frag} {C o : Addr} {H : Hp} {ss : List Str} {m : Int} {b : Bool} {y : V} {Q : VK} (h : Beside K C H ss m b y) (l : LandAt H C o (ss.map V.str) m) (hs : ∀ s ∈ ss, PyData.canLay0 (.str s) = true) (q : Q (.bl (!b)) H) : rNeO K C (spLandEq K C) (.ref o) y H Q := by
  obtain ⟨t, ty, nf, _⟩ := id h
  obtain ⟨dx, T, h1, _⟩ := id l
  exact ⟨o, dx, _, t, rfl, h1, ty, nf, h.spec l hs ⟨b, rfl, q⟩⟩
theorem Beside.land {K : PySem.W.Frag} {C fE oy : Addr} {H : Hp} {ss ts : List Str} {m my : Int} (F : LandF K C fE) (l : LandAt H C oy (ts.map V.str) my) (hs : ∀ s ∈ ts, PyData.canLay0 (.str s) = true) : Beside K C H ss m (decide (ss = ts ∧ m = my)) (.ref oy) := by
  obtain ⟨dx, T, h1, _⟩ := id l
  exact ⟨.ref C, tyA_ins h1 F.E.own, F.E.nfC, .inl ⟨oy, ts, my, rfl, l, hs, F.E.kit, rfl⟩⟩
theorem Beside.any {K : PySem.W.Frag} {C fE : Addr} {H : Hp} {ss : List Str} {m : Int} {y : V} {T : String} (F : LandF K C fE) (ty : TyA K H y (.type T)) (h : T ∈ ["NoneType", "int", "list", "dict", "function"]) : Beside K C H ss m false y :=
  ⟨.type T, ty, F.E.nf T h, .inr ⟨F.kf T h, rfl⟩⟩
theorem LandAt.but {p : Addr} {H H' : Hp} {C o : Addr} {xs : List V} {m : Int} (h : LandAt H C o xs m) (S : Src H p) (b : ButS p H H') : LandAt H' C o xs m := by
  obtain ⟨dx, T, h1, h2⟩ := h
  obtain ⟨d, s, c, hp⟩ := S
  exact ⟨dx, T, b _ _ (fun z => by rw [z, hp] at h1; cases h1) h1, b _ _ (fun z => by rw [z, hp] at h2; cases h2) h2⟩
theorem rev_ne {ss : List Str} (nd : ss.Nodup) (two : 2 ≤ ss.length) : ss ≠ ss.reverse := fun e => by
  have h0 : 0 < ss.length := by omega
  have z : ss[0] = ss[ss.length - 1] := by
    have q : ss[0]? = ss.reverse[0]? := by rw [← e]
    rw [List.getElem?_reverse h0, List.getElem?_eq_getElem h0, List.getElem?_eq_getElem (by omega)] at q
    have q2 := Option.some.inj q
    simpa using q2
  exact nd_at nd h0 (by omega) (by omega) z
end OB
namespace OB
open PySem PySem.Spec PyProof.Rows L2
/-! ### the law's first look: lands made, told, compared -/
abbrev sLands : Stmt := top 60
def gKw (vs zs : List V) : List V := match vs, zs with
  | [o], [m, a] => [o, a, m]
  | _, _ => []
def spLands (K : PySem.W.Frag) : Sp := fun vs H Q _ => ∃ (p n : Addr) (ss : List Str) (m : Int), vs = [.ref p, .ref n, .int m] ∧ Src H p ∧ H n = some (.lst (ss.map V.str)) ∧ n ≠ p ∧ GoodN ss ∧ ("other" : Str) ∉ ss ∧ 1 ≤ m ∧ ∀ H', ButS p H H' → Src H' p → Q (.bl true) H'
theorem paired_str {K : PySem.W.Frag} {C : Addr} {H : Hp} {d : Nat} : ∀ {ss : List Str}, (∀ s ∈ ss, s.length ≤ 100) → Paired (SameV K C (d + 1) H) (ss.map V.str) (ss.map V.str)
  | [], _ => .nil
  | s :: ss, h => .cons (SameW.str (h s (List.mem_cons_self ..))) (paired_str fun x m => h x (List.mem_cons_of_mem _ m))
def oth : Str := "other"
theorem cut_last {xs : List V} (h : 1 ≤ xs.length) : cutV xs none (some (-1)) = xs.dropLast := by
  have e : HT.sIx xs.length xs.length (some (-1)) = xs.length - 1 := by
    show (if (-1 : Int) < 0 then ((-1 : Int) + (xs.length : Int)).toNat else min (-1 : Int).toNat xs.length) = _
    rw [if_pos (by decide)]
    omega
  unfold cutV
  rw [e, HT.sIx_none, List.drop_zero, Nat.sub_zero, List.dropLast_eq_take]
theorem nd_rev {ss : List Str} (h : ss.Nodup) : ss.reverse.Nodup := by
  unfold List.Nodup
  rw [List.pairwise_reverse]
  exact h.imp fun a e => a e.symm
theorem all_app {Pr : V → Prop} {l1 l2 : List V} (h1 : ∀ y ∈ l1, Pr y) (h2 : ∀ y ∈ l2, Pr y) : ∀ y ∈ l1 ++ l2, Pr y := fun y m => (List.mem_append.mp m).elim (h1 y) (h2 y)
structure LandT (P : Program) (w : World) (K : PySem.W.Frag) (mg : Str → Option Value) (base : Heap) (C CA CM fI fE fA fM : Addr) (fdI fdE fdA fdM : FuncData) : Prop where
  M : Mk K C fI
  gC : mg "Land" = some (.ref C)
  LC : LandC K C
  F : LandF K C fE
  GI : FnOk P w K mg base (L2.CX P w) 4 fI fdI ["self", "addresses", "most"] (spLandInit K C CA CM)
  bI : Binds K fdI ["self", "addresses", "most"] []
  kI : ∃ g, KBn K fdI ["self", "addresses", "most"] 1 ["most", "addresses"] g gKw
  GE : FnOk P w K mg base CX0 1 fE fdE ["self", "other"] (spLandEq K C)
  bE : Binds K fdE ["self", "other"] []
  mA : Meth K C "addresses" fA
  GA : FnOk P w K mg base CX0 1 fA fdA ["self"] (spLandAdr C)
  bA : Binds K fdA ["self"] []
  mM : Meth K C "most" fM
  GM : FnOk P w K mg base CX0 1 fM fdM ["self"] (spLandMost C)
  bM : Binds K fdM ["self"] []
theorem const_step {c : V} {L : List V} {i : Nat} {y : V} (h : L[i]? = some y) : (L.take i).map (fun _ => c) ++ [c] = (L.take (i + 1)).map fun _ => c := by
  rw [List.take_add_one, h, List.map_append]
  rfl
theorem any_const (b : Bool) : ∀ L : List V, L ≠ [] → (L.map fun _ => b).any id = b
  | [], h => absurd rfl h
  | [x], _ => by cases b <;> rfl
  | x :: y :: L, _ => by
    have := any_const b (y :: L) (by simp)
    rw [List.map_cons, List.any_cons, this]
    cases b <;> rfl
theorem all_const (b : Bool) : ∀ L : List V, L ≠ [] → (L.map fun _ => b).all id = b
  | [], h => absurd rfl h
  | [x], _ => by cases b <;> rfl
  | x :: y :: L, _ => by
    have := all_const b (y :: L) (by simp)
    rw [List.map_cons, List.all_cons, this]
    cases b <;> rfl
theorem map_const_bl {b : Bool} {L : List V} : (L.map fun _ => V.bl b) = (L.map fun _ => b).map V.bl := by
  rw [List.map_map]
  rfl
section
variable {P : Program} {w : World} {K : PySem.W.Frag} {mg : Str → Option Value} {base : Heap}
theorem scLands : FnScope ["source", "names", "most", "handed", "land", "others", "other"] ["source", "names", "most"] (defScope sLands) := ⟨rfl, rfl, rfl, by decide +kernel, rfl, by decide +kernel, by decide +kernel⟩
theorem ok_lands {f fP fS fT C CA CM fI fE fA fM : Addr} {fd fdP fdS fdI fdE fdA fdM : FuncData} {oT : Obj} (F : Fun K "_law_lands_right" "_law_lands_right" sLands f fd) (T : TxtC mg) (TF : TxtF mg) (L : LandT P w K mg base C CA CM fI fE fA fM fdI fdE fdA fdM)
    (GP : FnOk P w K mg base CX0 2 fP fdP ["source", "some"] (spPick K)) (gP : mg "_law_pick" = some (.ref fP)) (kP : PySem.W.keepIn K (.ref fP) = true) (bP : Binds K fdP ["source", "some"] [])
    (GS : FnOk P w K mg base CX0 4 fS fdS ["found", "wanted"] (spSame (SameV K C 3))) (gS : mg "_law_same" = some (.ref fS)) (kS : PySem.W.keepIn K (.ref fS) = true) (bS : Binds K fdS ["found", "wanted"] [])
    (gT : mg "_law_met" = some (.ref fT)) (lT : K.lookup fT = some oT) (cT : oT.cls = .type "function") : FnOk P w K mg base CX0 6 f fd ["source", "names", "most"] (spLands K) := by
  obtain ⟨gk, kI⟩ := L.kI
  refine F.ok scLands (fun vs H Q E h => ?_) (fun cdv A outer s H vs Q E hr h => ?_)
  · obtain ⟨p, n, ss, m, rfl, _⟩ := h
    rfl
  · obtain ⟨p, n, ss, m, rfl, S, hn, np, g, no, hm, q⟩ := h
    have nd := scLands.nd
    have hr1 := hr.mono (show 1 ≤ 5 by decide)
    have hr2 := hr.mono (show 2 ≤ 5 by decide)
    have hr4 := hr.mono (show 4 ≤ 5 by decide)
    refine ⟨_, pss_cons (ps_set (i := 3) nd rfl (Or.inl rfl) (pe_call GP hr2 (by rfl) gP kP bP .nil pass0 (pa_cons (pv 0) (pa_cons (pe_lst (pa_cons (pe_callTy call_list_of (by rfl) T.list (by decide +kernel) (pa_cons (pv 1) pa_nil)) (pa_cons (pe_callTy call_tuple_of (by rfl) T.tuple (by decide +kernel) (pa_cons (pv 1) pa_nil)) pa_nil))) pa_nil))))
      (pss_cons (ps_set (i := 4) nd rfl (Or.inr rfl) (pe_makeK0 (E := noE) L.M L.GI hr (by rfl) L.gC kI pass_no (pk_cons (pv 2) (pk_cons (pv 3) pk_nil))))
      (pss_cons (ps_if (pt_val (pe_callB call_isA (by rfl) T.isi bootIsi (pa_cons (pv 3) (pa_cons (pe_bltn (v := .ty "list") (u := .type "list") (by rfl) T.list bList rfl) pa_nil)))) (pss_one (ps_expr (pe_bm PySem.F.plainAttrs_list PySem.F.slot_list_append PySem.F.type_list_append mt_append (pv 3) (pa_cons pe_str pa_nil)))) pss_nil)
      (pss_cons (ps_expr (pe_bm PySem.F.plainAttrs_list PySem.F.slot_list_append PySem.F.type_list_append mt_append (pe_meth0 (pv 4) L.LC.cl L.mA L.GA hr1 L.bA .nil pass0) (pa_cons pe_str pa_nil)))
      (pss_cons (ps_if (pt_not (pt_val (pe_call GS hr4 (by rfl) gS kS bS .nil pass0 (pa_cons (pe_lst (pa_cons (pe_meth0 (pv 4) L.LC.cl L.mA L.GA hr1 L.bA .nil pass0) (pa_cons (pe_meth0 (pv 4) L.LC.cl L.mM L.GM hr1 L.bM .nil pass0) pa_nil))) (pa_cons (pe_lst (pa_cons (pe_callTy call_list_of (by rfl) T.list (by decide +kernel) (pa_cons (pv 1) pa_nil)) (pa_cons (pv 2) pa_nil))) pa_nil))))) (pss_one (ps_ret pe_bl)) pss_nil)
      (pss_cons (ps_set (i := 5) nd rfl (Or.inl rfl) (pe_lst (pa_cons (pe_make (E := noE) L.M L.GI hr (by rfl) L.gC L.bI .nil pass_no (pa_cons (pe_revL (pv 1)) (pa_cons (pv 2) pa_nil))) (pa_cons (pe_make (E := noE) L.M L.GI hr (by rfl) L.gC L.bI .nil pass_no (pa_cons (pv 1) (pa_cons (pe_op op_add (pv 2) pe_int) pa_nil)))
        (pa_cons (pe_make (E := noE) L.M L.GI hr (by rfl) L.gC L.bI .nil pass_no (pa_cons (pe_op op_cat (pe_callTy call_list_of (by rfl) T.list (by decide +kernel) (pa_cons (pe_slice sl_list (pv 1) po_none (po_some (pe_un un_neg pe_int))) pa_nil)) (pe_lst (pa_cons pe_str pa_nil))) (pa_cons (pv 2) pa_nil))) pa_nil)))))
      (pss_cons (ps_expr (pe_bm PySem.F.plainAttrs_list PySem.F.slot_list_extend PySem.F.type_list_extend mt_extend (pv 5) (pa_cons (pe_lst (pa_cons pe_non (pa_cons pe_int (pa_cons (pe_callTy call_list_of (by rfl) T.list (by decide +kernel) (pa_cons (pv 1) pa_nil)) (pa_cons pe_dnewK (pa_cons (pe_glob (v := .ref fT) (by rfl) gT rfl) pa_nil)))))) pa_nil)))
      (pss_cons (ps_if (PW.pt (pw_or (pt_not (pt_cmpR (op_eqO L.GE hr1 L.F.E.eq L.F.E.fn L.bE) (pv 4) (pe_make (E := noE) L.M L.GI hr (by rfl) L.gC L.bI .nil pass_no (pa_cons (pe_callTy call_tuple_of (by rfl) T.tuple (by decide +kernel) (pa_cons (pv 1) pa_nil)) (pa_cons (pv 2) pa_nil))) (nomark _)))
          (pw_or1 (pt_cmpR (op_neO L.GE hr2 L.F.E.eq L.F.E.fn L.bE L.F.ne L.F.ob) (pv 4) (pe_make (E := noE) L.M L.GI hr (by rfl) L.gC L.bI .nil pass_no (pa_cons (pe_callTy call_list_of (by rfl) T.list (by decide +kernel) (pa_cons (pv 1) pa_nil)) (pa_cons (pv 2) pa_nil))) (nomark _))))) (pss_one (ps_ret pe_bl)) pss_nil)
      (pss_one (ps_ret (pe_and (pe_not (pe_callB (cr_any rfl) (by rfl) TF.any (by decide +kernel) (pa_cons (pe_lc (own := [("other", 6)]) (g := gName 6) (tt := tYes) rfl nd (pi_list (pv 5)) (blkOk_by (N := ["source", "names", "most", "handed", "land", "others", "other"]) (sc := defScope sLands) (by decide +kernel))
          (fun _ _ _ _ _ => pg_name (i := 6) nd rfl (Or.inl rfl)) (fun _ _ _ _ _ => pts_nil) (fun _ _ _ _ _ => pe_cmpR (r := rEqO K C (spLandEq K C)) (op_eqO L.GE hr1 L.F.E.eq L.F.E.fn L.bE) (pv 4) (pv 6) (nomark _))) pa_nil)))
        (pe_one (pe_callB (cr_all rfl) (by rfl) T.all (by decide +kernel) (pa_cons (pe_lc (own := [("other", 6)]) (g := gName 6) (tt := tYes) rfl nd (pi_list (pv 5)) (blkOk_by (N := ["source", "names", "most", "handed", "land", "others", "other"]) (sc := defScope sLands) (by decide +kernel))
          (fun _ _ _ _ _ => pg_name (i := 6) nd rfl (Or.inl rfl)) (fun _ _ _ _ _ => pts_nil) (fun _ _ _ _ _ => pe_cmpR (r := rNeO K C (spLandEq K C)) (op_neO L.GE hr2 L.F.E.eq L.F.E.fn L.bE L.F.ne L.F.ob) (pv 4) (pv 6) (nomark _))) pa_nil))))))))))))), ?_⟩
    refine ⟨_, rfl, _, rfl, n, ss.map V.str, rfl, .inl (SqL.of hn), fun l1 nl1 => ?_⟩
    have e1 := Same.new (u := .lst (ss.map V.str)) nl1
    refine ⟨_, rfl, n, ss.map V.str, rfl, .inl ⟨SqL.of (e1 _ _ hn), fun l2 nl2 => ?_⟩⟩
    have gl1 : (upd (upd H l1 (.lst (ss.map V.str))) l2 (.tup (ss.map V.str))) l1 = some (.lst (ss.map V.str)) := Same.new nl2 _ _ upd_same
    have gl2 : (upd (upd H l1 (.lst (ss.map V.str))) l2 (.tup (ss.map V.str))) l2 = some (.tup (ss.map V.str)) := upd_same
    have e2 := e1.trans (Same.new (u := .tup (ss.map V.str)) nl2)
    have S2 := (S.but (u := .lst (ss.map V.str)) nl1).but (u := .tup (ss.map V.str)) nl2
    have l1p : l1 ≠ p := S.ne nl1
    have l2p : l2 ≠ p := (S.but nl1).ne nl2
    generalize upd (upd H l1 (.lst (ss.map V.str))) l2 (.tup (ss.map V.str)) = H2 at gl1 gl2 e2 S2
    refine ⟨by show 2 ≤ sizeLine; decide, fun l3 nl3 => ?_⟩
    refine ⟨p, l3, _, rfl, S2.but nl3, SqL.of upd_same, S2.ne nl3, by simp, by simp, fun H3 j x B3 S3 hx => ?_⟩
    have E3 : ButS p H H3 := (ButS.same (e2.trans (Same.new nl3))).trans B3
    obtain ⟨hd, tp, rfl, ghd, hdp, hd0⟩ : ∃ hd tp, x = .ref hd ∧ H3 hd = some (mkX tp (ss.map V.str)) ∧ hd ≠ p ∧ H hd = none := by
      match j, hx with
      | 0, hx => exact ⟨l1, false, (Option.some.inj hx).symm, B3 _ _ l1p (Same.new nl3 _ _ gl1), l1p, nl1⟩
      | 1, hx => exact ⟨l2, true, (Option.some.inj hx).symm, B3 _ _ l2p (Same.new nl3 _ _ gl2), l2p, e1.free nl2⟩
    -- land
    refine ⟨_, rfl, _, rfl, rfl, rfl, fun x dx nx ndx ne => ?_⟩
    have dat : ∀ {u : HO}, (upd (upd H3 dx (.own x)) x u) hd = some (mkX tp (ss.map V.str)) := fun {u} => by
      rw [upd_ne (ne_of_none ghd nx), upd_ne (ne_of_none ghd ndx)]
      exact ghd
    refine mkLand g hm upd_same dat fun H4 B4 L4 => ⟨rfl, ?_⟩
    have e4 : Same H3 H4 := made_same nx ndx B4
    have hd4 : H4 hd = some (mkX tp (ss.map V.str)) := e4 _ _ ghd
    have E4 : ButS p H H4 := E3.trans (ButS.same e4)
    have S4 : Src H4 p := by
      obtain ⟨a, b, c, hp⟩ := S3
      exact ⟨a, b, c, e4 _ _ hp⟩
    have short : ∀ s ∈ ss, s.length ≤ 100 := fun s ms => (names_good s (g.inn s ms)).2.1
    have lay := g.lay
    clear B4 dat
    cases tp
    all_goals first
      | (have au : Any K H4 (.ref hd) .lst := .lst hd4
         obtain ⟨t, U⟩ := au.says
         refine ⟨_, rfl, _, .ty "list", t, .type "list", _, rfl, .ty _, U.ty, U.list, _, rfl, ?_⟩
         refine iteT ⟨_, rfl, .inl ⟨rfl, _, SqL.of hd4⟩, hd, _, _, rfl, rfl, hd4, by rw [sizeLine_eq, List.length_map]; have := g.few; omega, ?_⟩
         have E5 : ButS p H (upd H4 hd (.lst (ss.map V.str ++ [.str "late"]))) := fun b o nb e => by
           rw [upd_ne (fun z => by rw [z, hd0] at e; cases e)]
           exact E4 b o nb e
         have S5 := S4.put (u := .lst (ss.map V.str ++ [.str "late"])) hdp
         have L5 : LandAt (upd H4 hd (.lst (ss.map V.str ++ [.str "late"]))) C x (ss.map V.str) m := by
           obtain ⟨dz, T2, h1, h2⟩ := L4
           exact ⟨dz, T2, by rw [upd_ne (ne_of h1 hd4 (by intro z; cases z))]; exact h1, by rw [upd_ne (ne_of h2 hd4 (by intro z; cases z))]; exact h2⟩
         show tSeq _ _ _ _ (upd H4 hd (.lst (ss.map V.str ++ [.str "late"])))
         generalize upd H4 hd (.lst (ss.map V.str ++ [.str "late"])) = H5 at E5 S5 L5 ⊢)
      | (have au : Any K H4 (.ref hd) .tup := .tup hd4
         obtain ⟨t, U⟩ := au.says
         refine ⟨_, rfl, _, .ty "list", t, .type "list", _, rfl, .ty _, U.ty, U.list, _, rfl, ?_⟩
         refine iteF ?_
         have E5 := E4
         have S5 := S4
         have L5 := L4
         show tSeq _ _ _ _ H4
         generalize H4 = H5 at E5 S5 L5 ⊢)
    all_goals
      clear au U hd4 E4 S4 e4 L4
      obtain ⟨dz, T2, h1, h2⟩ := id L5
      refine ⟨_, rfl, x, dz, _, rfl, h1, by rfl, x, ss.map V.str, m, rfl, L5, fun H6 l e6 nl gl => ⟨.inl ⟨rfl, _, SqL.of gl⟩, l, _, _, rfl, rfl, gl, by rw [sizeLine_eq, List.length_map]; have := g.few; omega, ?_⟩⟩
      have e7 : Same H5 (upd H6 l (.lst (ss.map V.str ++ [.str "late"]))) := fun b o e => by
        rw [upd_ne (ne_of_none e nl)]
        exact e6 b o e
      have E7 := E5.trans (ButS.same e7)
      have S7 : Src (upd H6 l (.lst (ss.map V.str ++ [.str "late"]))) p := by
        obtain ⟨a, b, c, hp⟩ := S5
        exact ⟨a, b, c, e7 _ _ hp⟩
      have L7 := L5.same e7
      generalize upd H6 l (.lst (ss.map V.str ++ [.str "late"])) = H7 at E7 S7 L7 ⊢
      clear e6 e7 nl gl E5 S5 L5 h1 h2
      have len7 : (ss.map V.str).length ≤ 7 := by
        rw [List.length_map]
        exact g.few
      have two : 2 ≤ sizeLine := by decide
      obtain ⟨dz, T2, h1, h2⟩ := id L7
      refine ⟨_, rfl, x, dz, _, rfl, h1, by rfl, x, ss.map V.str, m, rfl, L7, fun H8 l8 e8 nl8 gl8 => ⟨_, rfl, x, dz, _, rfl, e8 _ _ h1, by rfl, x, ss.map V.str, m, rfl, L7.same e8, two, fun l9 nl9 => ?_⟩⟩
      have hn8 : (upd H8 l9 (.lst [.ref l8, .int m])) n = some (.lst (ss.map V.str)) := Same.new nl9 _ _ (e8 _ _ (E7 _ _ np hn))
      refine ⟨_, rfl, n, _, rfl, .inl (SqL.of hn8), fun l10 nl10 => ⟨_, rfl, two, fun l11 nl11 => ?_⟩⟩
      have g8 : (upd (upd (upd H8 l9 (.lst [.ref l8, .int m])) l10 (.lst (ss.map V.str))) l11 (.lst [.ref l10, .int m])) l8 = some (.lst (ss.map V.str)) := Same.new nl11 _ _ (Same.new nl10 _ _ (Same.new nl9 _ _ gl8))
      have g9 : (upd (upd (upd H8 l9 (.lst [.ref l8, .int m])) l10 (.lst (ss.map V.str))) l11 (.lst [.ref l10, .int m])) l9 = some (.lst [.ref l8, .int m]) := Same.new nl11 _ _ (Same.new nl10 _ _ upd_same)
      have g10 : (upd (upd (upd H8 l9 (.lst [.ref l8, .int m])) l10 (.lst (ss.map V.str))) l11 (.lst [.ref l10, .int m])) l10 = some (.lst (ss.map V.str)) := Same.new nl11 _ _ upd_same
      have g11 : (upd (upd (upd H8 l9 (.lst [.ref l8, .int m])) l10 (.lst (ss.map V.str))) l11 (.lst [.ref l10, .int m])) l11 = some (.lst [.ref l10, .int m]) := upd_same
      have e11 : Same H7 (upd (upd (upd H8 l9 (.lst [.ref l8, .int m])) l10 (.lst (ss.map V.str))) l11 (.lst [.ref l10, .int m])) := ((e8.trans (Same.new nl9)).trans (Same.new nl10)).trans (Same.new nl11)
      generalize upd (upd (upd H8 l9 (.lst [.ref l8, .int m])) l10 (.lst (ss.map V.str))) l11 (.lst [.ref l10, .int m]) = H11 at g8 g9 g10 g11 e11
      refine ⟨.ref l9, .ref l11, rfl, ?_, fun H12 e12 => ⟨_, rfl, iteF ?_⟩⟩
      · exact SameW.seq (tp := false) g9 g11 (by simp) (.cons (SameW.seq (tp := false) g8 g10 (by omega) (paired_str short)) (.cons (SameW.int m) .nil))
      have E12 := E7.trans (ButS.same (e11.trans e12))
      have S12 : Src H12 p := by
        obtain ⟨a, b, c, hp⟩ := S7
        exact ⟨a, b, c, e12 _ _ (e11 _ _ hp)⟩
      have L12 := L7.same (e11.trans e12)
      clear e11 e12 g8 g9 g10 g11 hn8 h1 h2 E7 S7 L7
      have hn12 : H12 n = some (.lst (ss.map V.str)) := E12 _ _ np hn
      have gr : GoodN ss.reverse := ⟨fun s ms => g.inn s (List.mem_reverse.mp ms), nd_rev g.nd, by rw [List.length_reverse]; exact g.two, by rw [List.length_reverse]; exact g.few⟩
      refine ⟨_, rfl, n, _, rfl, SqL.of hn12, fun r nr => ?_⟩
      rw [← List.map_reverse]
      refine ⟨_, rfl, fun x1 dx1 nx1 ndx1 ne1 => mkLand (tp := false) (ss := ss.reverse) gr hm upd_same (by rw [upd_ne (ne_of_none upd_same nx1), upd_ne (ne_of_none upd_same ndx1)]; exact upd_same) fun H13 B13 L13 => ⟨rfl, ?_⟩⟩
      have e13 : Same H12 H13 := (Same.new nr).trans (made_same nx1 ndx1 B13)
      have hn13 := e13 _ _ hn12
      refine ⟨_, rfl, _, rfl, m, 1, rfl, rfl, fun x2 dx2 nx2 ndx2 ne2 => mkLand (tp := false) (ss := ss) g (by omega) upd_same (by rw [upd_ne (ne_of_none hn13 nx2), upd_ne (ne_of_none hn13 ndx2)]; exact hn13) fun H14 B14 L14 => ⟨rfl, ?_⟩⟩
      have e14 : Same H13 H14 := made_same nx2 ndx2 B14
      have hn14 := e14 _ _ hn13
      refine ⟨_, rfl, 1, rfl, _, rfl, n, _, rfl, SqL.of hn14, fun c nc => ?_⟩
      rw [cut_last (by rw [List.length_map]; have := g.two; omega), ← List.map_dropLast]
      refine ⟨c, _, rfl, .inl (SqL.of upd_same), fun c2 nc2 => ⟨by show 1 ≤ sizeLine; decide, fun c3 nc3 => ?_⟩⟩
      have ld : (ss.dropLast.map V.str).length ≤ 7 := by
        rw [List.length_map, List.length_dropLast]
        have := g.few
        omega
      refine ⟨c2, c3, _, _, rfl, rfl, Same.new nc3 _ _ upd_same, upd_same, by rw [sizeLine_eq, List.length_singleton]; omega, fun c4 nc4 => ?_⟩
      have e15 := ((((Same.new (u := .lst (ss.dropLast.map V.str)) nc)).trans (Same.new (u := .lst (ss.dropLast.map V.str)) nc2)).trans (Same.new (u := .lst [.str "other"]) nc3)).trans (Same.new (u := .lst (ss.dropLast.map V.str ++ [.str "other"])) nc4)
      have gc4 : (upd (upd (upd (upd H14 c (.lst (ss.dropLast.map V.str))) c2 (.lst (ss.dropLast.map V.str))) c3 (.lst [.str "other"])) c4 (.lst (ss.dropLast.map V.str ++ [.str "other"]))) c4 = some (.lst ((ss.dropLast ++ [oth]).map V.str)) := by
        rw [upd_same, List.map_append]
        rfl
      generalize upd (upd (upd (upd H14 c (.lst (ss.dropLast.map V.str))) c2 (.lst (ss.dropLast.map V.str))) c3 (.lst [.str "other"])) c4 (.lst (ss.dropLast.map V.str ++ [.str "other"])) = H15 at e15 gc4
      have go : GoodN (ss.dropLast ++ [oth]) := by
        refine ⟨fun s ms => ?_, ?_, ?_, ?_⟩
        · rcases List.mem_append.mp ms with z | z
          · exact g.inn s ((List.dropLast_sublist ss).subset z)
          · rw [List.mem_singleton.mp z]
            exact List.mem_cons_self ..
        · refine List.nodup_append.mpr ⟨g.nd.sublist (List.dropLast_sublist ss), by simp, fun a ma b mb e => ?_⟩
          rw [List.mem_singleton.mp mb] at e
          exact no (show oth ∈ ss by rw [← e]; exact (List.dropLast_sublist ss).subset ma)
        · rw [List.length_append, List.length_dropLast, List.length_singleton]
          have := g.two
          omega
        · rw [List.length_append, List.length_dropLast, List.length_singleton]
          have := g.few
          omega
      refine ⟨_, rfl, fun x3 dx3 nx3 ndx3 ne3 => mkLand (tp := false) (ss := ss.dropLast ++ [oth]) go hm upd_same (by rw [upd_ne (ne_of_none gc4 nx3), upd_ne (ne_of_none gc4 ndx3)]; exact gc4) fun H16 B16 L16 => ⟨rfl, ?_⟩⟩
      have e16 : Same H15 H16 := made_same nx3 ndx3 B16
      refine ⟨by show 3 ≤ sizeLine; decide, fun od nod => ?_⟩
      have god : (upd H16 od (.lst [.ref x1, .ref x2, .ref x3])) od = some (.lst [.ref x1, .ref x2, .ref x3]) := upd_same
      have e17 : Same H12 (upd H16 od (.lst [.ref x1, .ref x2, .ref x3])) := (((e13.trans e14).trans e15).trans e16).trans (Same.new nod)
      have A1 := L13.same (((e14.trans e15).trans e16).trans (Same.new (u := .lst [.ref x1, .ref x2, .ref x3]) nod))
      have A2 := L14.same ((e15.trans e16).trans (Same.new (u := .lst [.ref x1, .ref x2, .ref x3]) nod))
      have A3 := L16.same (Same.new (u := .lst [.ref x1, .ref x2, .ref x3]) nod)
      have od12 : H12 od = none := (((e13.trans e14).trans e15).trans e16).free nod
      clear L13 L14 L16 e13 e14 e15 e16 gc4 hn13 hn14 B13 B14 B16 nx1 nx2 nx3 ndx1 ndx2 ndx3 ne1 ne2 ne3 nr nc nc2 nc3 nc4
      generalize upd H16 od (.lst [.ref x1, .ref x2, .ref x3]) = H17 at god e17 A1 A2 A3
      have hn17 := e17 _ _ hn12
      refine ⟨_, rfl, .inl ⟨rfl, _, SqL.of god⟩, _, rfl, n, _, rfl, .inl (SqL.of hn17), fun a1 na1 => fun d1 nd1 => ?_⟩
      have f18 := (Same.new (u := .lst (ss.map V.str)) na1).trans (Same.new (u := .dK []) nd1)
      have ga1 : (upd (upd H17 a1 (.lst (ss.map V.str))) d1 (.dK [])) a1 = some (.lst (ss.map V.str)) := Same.new nd1 _ _ upd_same
      have gd1 : (upd (upd H17 a1 (.lst (ss.map V.str))) d1 (.dK [])) d1 = some (.dK []) := upd_same
      generalize upd (upd H17 a1 (.lst (ss.map V.str))) d1 (.dK []) = H18 at f18 ga1 gd1
      refine ⟨by show 5 ≤ sizeLine; decide, fun el nel => ?_⟩
      refine ⟨od, el, _, _, rfl, rfl, Same.new nel _ _ (f18 _ _ god), upd_same, by show 3 + 5 ≤ sizeLine; decide, ?_⟩
      have god2 : (upd (upd H18 el (.lst [.non, .int 5, .ref a1, .ref d1, .ref fT])) od (.lst ([V.ref x1, .ref x2, .ref x3] ++ [V.non, V.int 5, V.ref a1, V.ref d1, V.ref fT]))) od = some (.lst ([V.ref x1, .ref x2, .ref x3] ++ [V.non, V.int 5, V.ref a1, V.ref d1, V.ref fT])) := upd_same
      have e19 : ∀ b o, b ≠ od → H17 b = some o → (upd (upd H18 el (.lst [.non, .int 5, .ref a1, .ref d1, .ref fT])) od (.lst ([V.ref x1, .ref x2, .ref x3] ++ [V.non, V.int 5, V.ref a1, V.ref d1, V.ref fT]))) b = some o := fun b o nb e => by
        rw [upd_ne nb]
        exact Same.new nel _ _ (f18 _ _ e)
      have offL : ∀ {o : Addr} {ts : List Str} {my : Int}, LandAt H17 C o (ts.map V.str) my → LandAt (upd (upd H18 el (.lst [.non, .int 5, .ref a1, .ref d1, .ref fT])) od (.lst ([V.ref x1, .ref x2, .ref x3] ++ [V.non, V.int 5, V.ref a1, V.ref d1, V.ref fT]))) C o (ts.map V.str) my := fun h => by
        obtain ⟨dq, Tq, q1, q2⟩ := h
        exact ⟨dq, Tq, e19 _ _ (ne_of q1 god (by intro z; cases z)) q1, e19 _ _ (ne_of q2 god (by intro z; cases z)) q2⟩
      have M1 := offL A1
      have M2 := offL A2
      have M3 := offL A3
      have M0 := offL (L12.same e17)
      have ga19 : (upd (upd H18 el (.lst [.non, .int 5, .ref a1, .ref d1, .ref fT])) od (.lst ([V.ref x1, .ref x2, .ref x3] ++ [V.non, V.int 5, V.ref a1, V.ref d1, V.ref fT]))) a1 = some (.lst (ss.map V.str)) := by
        rw [upd_ne (ne_of_none god na1).symm]
        exact Same.new nel _ _ ga1
      have gd19 : (upd (upd H18 el (.lst [.non, .int 5, .ref a1, .ref d1, .ref fT])) od (.lst ([V.ref x1, .ref x2, .ref x3] ++ [V.non, V.int 5, V.ref a1, V.ref d1, V.ref fT]))) d1 = some (.dK []) := by
        rw [upd_ne (ne_of gd1 (f18 _ _ god) (by intro z; cases z))]
        exact Same.new nel _ _ gd1
      have hn19 : (upd (upd H18 el (.lst [.non, .int 5, .ref a1, .ref d1, .ref fT])) od (.lst ([V.ref x1, .ref x2, .ref x3] ++ [V.non, V.int 5, V.ref a1, V.ref d1, V.ref fT]))) n = some (.lst (ss.map V.str)) := e19 _ _ (ne_of_none hn12 od12) hn17
      have E19 : ButS p H (upd (upd H18 el (.lst [.non, .int 5, .ref a1, .ref d1, .ref fT])) od (.lst ([V.ref x1, .ref x2, .ref x3] ++ [V.non, V.int 5, V.ref a1, V.ref d1, V.ref fT]))) := fun b o nb e => by
        have e12 := E12 b o nb e
        exact e19 b o (ne_of_none e12 od12) (e17 _ _ e12)
      have S19 : Src (upd (upd H18 el (.lst [.non, .int 5, .ref a1, .ref d1, .ref fT])) od (.lst ([V.ref x1, .ref x2, .ref x3] ++ [V.non, V.int 5, V.ref a1, V.ref d1, V.ref fT]))) p := by
        obtain ⟨a, b, c, hp⟩ := S12
        exact ⟨a, b, c, e19 _ _ (ne_of_none hp od12) (e17 _ _ hp)⟩
      show tSeq _ _ _ _ (upd (upd H18 el (.lst [.non, .int 5, .ref a1, .ref d1, .ref fT])) od (.lst ([V.ref x1, .ref x2, .ref x3] ++ [V.non, V.int 5, V.ref a1, V.ref d1, V.ref fT])))
      generalize upd (upd H18 el (.lst [.non, .int 5, .ref a1, .ref d1, .ref fT])) od (.lst ([V.ref x1, .ref x2, .ref x3] ++ [V.non, V.int 5, V.ref a1, V.ref d1, V.ref fT])) = H19 at E19 S19 hn19 gd19 ga19 M0 M1 M2 M3 god2 ⊢
      clear offL e19 ga1 gd1 f18 na1 nd1 nel nod A1 A2 A3 e17 god hn17 E12 S12 L12 hn12 od12
      have r1 : decide (ss = ss.reverse ∧ m = m) = false := decide_eq_false fun z => rev_ne g.nd g.two z.1
      have r2 : decide (ss = ss ∧ m = m + 1) = false := decide_eq_false fun z => by
        have y := z.2
        omega
      have r3 : decide (ss = ss.dropLast ++ [oth] ∧ m = m) = false := decide_eq_false fun z => no (by
        rw [z.1]
        exact List.mem_append_right _ (List.mem_singleton.mpr rfl))
      have rT : decide (ss = ss ∧ m = m) = true := decide_eq_true ⟨rfl, rfl⟩
      have hB : ∀ G, Same H19 G → ∀ y ∈ [V.ref x1, .ref x2, .ref x3] ++ [V.non, V.int 5, V.ref a1, V.ref d1, V.ref fT], Beside K C G ss m false y := fun G e =>
        show ∀ y ∈ [V.ref x1, V.ref x2, V.ref x3, V.non, V.int 5, V.ref a1, V.ref d1, V.ref fT], Beside K C G ss m false y from all_cons (r1 ▸ Beside.land L.F (M1.same e) gr.lay) (all_cons (r2 ▸ Beside.land L.F (M2.same e) g.lay) (all_cons (r3 ▸ Beside.land L.F (M3.same e) go.lay)
          (all_cons (Beside.any L.F (.x (.base .non)) (by simp)) (all_cons (Beside.any L.F (.x (.base (.int 5))) (by simp)) (all_cons (Beside.any L.F (.x (.base (.lst (e _ _ ga19)))) (by simp)) (all_cons (Beside.any L.F (.x (.base (.dK (e _ _ gd19)))) (by simp)) (all_cons (Beside.any L.F (.fn lT cT) (by simp)) all_nil)))))))
      have len8 : ([V.ref x1, .ref x2, .ref x3] ++ [V.non, V.int 5, V.ref a1, V.ref d1, V.ref fT]).length = 8 := rfl
      generalize [V.ref x1, .ref x2, .ref x3] ++ [V.non, V.int 5, V.ref a1, V.ref d1, V.ref fT] = L8 at hB god2 len8
      -- the two comparisons
      refine ⟨_, rfl, _, rfl, n, _, rfl, .inl ⟨SqL.of hn19, fun t nt => ⟨_, rfl, fun x4 dx4 nx4 ndx4 ne4 => ?_⟩⟩⟩
      have gt : (upd H19 t (.tup (ss.map V.str))) t = some (.tup (ss.map V.str)) := upd_same
      refine mkLand (tp := true) (ss := ss) g hm upd_same (by rw [upd_ne (ne_of_none gt nx4), upd_ne (ne_of_none gt ndx4)]; exact gt) fun H20 B20 L20 => ⟨rfl, ?_⟩
      have e20 : Same H19 H20 := (Same.new nt).trans (made_same nx4 ndx4 B20)
      refine Beside.eq (b := true) (rT ▸ Beside.land L.F L20 g.lay) (M0.same e20) g.lay ⟨_, rfl, iteF ?_⟩
      have hn20 := e20 _ _ hn19
      refine ⟨_, rfl, _, rfl, n, _, rfl, .inl (SqL.of hn20), fun t2 nt2 => ⟨_, rfl, fun x5 dx5 nx5 ndx5 ne5 => ?_⟩⟩
      have gt2 : (upd H20 t2 (.lst (ss.map V.str))) t2 = some (.lst (ss.map V.str)) := upd_same
      refine mkLand (tp := false) (ss := ss) g hm upd_same (by rw [upd_ne (ne_of_none gt2 nx5), upd_ne (ne_of_none gt2 ndx5)]; exact gt2) fun H21 B21 L21 => ⟨rfl, ?_⟩
      have e21 : Same H19 H21 := e20.trans ((Same.new nt2).trans (made_same nx5 ndx5 B21))
      refine Beside.neq (b := true) (rT ▸ Beside.land L.F L21 g.lay) (M0.same e21) g.lay ⟨_, rfl, iteF ?_⟩
      have god21 := e21 _ _ god2
      have allF : ∀ b : Bool, ∀ (D : Addr), H21 D = none → ∀ G, (∀ c o, c ≠ D → H21 c = some o → G c = some o) → Same H19 G := fun b D nD G e c o k => e c o (ne_of_none (e21 _ _ k) nD) (e21 _ _ k)
      refine ⟨_, rfl, od, rfl, ⟨L8, SqL.of god21⟩, fun D nD => ?_⟩
      refine lc_list (xs := L8) (fun i G => (∀ c o, c ≠ D → H21 c = some o → G c = some o) ∧ G D = some (.lst ((L8.take i).map fun _ => V.bl false))) ⟨fun c o nc e => by rw [upd_ne nc]; exact e, by rw [upd_same]; rfl⟩ (fun i G hi q => SqL.of (q.1 _ _ (ne_of_none god21 nD) god21)) (fun i y G hy ⟨m1, m2⟩ => ?_) (fun G ⟨m1, m2⟩ => ?_)
      · have eG := allF true D nD G m1
        have my : y ∈ L8 := List.mem_of_getElem? hy
        refine ⟨rfl, _, rfl, _, rfl, Beside.eq (hB G eG y my) (M0.same eG) g.lay ⟨_, m2, ?_, ?_, ?_⟩⟩
        · rw [List.length_map, List.length_take, len8, sizeLine_eq]
          omega
        · intro c o nc e
          rw [upd_ne nc]
          exact m1 c o nc e
        · rw [upd_same, const_step hy]
      · rw [List.take_length, map_const_bl] at m2
        have eG := allF true D nD G m1
        refine ⟨D, _, rfl, SqL.of m2, ?_⟩
        rw [any_const false L8 (by intro z; rw [z] at len8; cases len8)]
        have gG := m1 _ _ (ne_of_none god21 nD) god21
        refine ⟨_, rfl, _, rfl, iteT ⟨_, rfl, od, rfl, ⟨L8, SqL.of gG⟩, fun D2 nD2 => ?_⟩⟩
        refine lc_list (xs := L8) (fun i G2 => (∀ c o, c ≠ D2 → G c = some o → G2 c = some o) ∧ G2 D2 = some (.lst ((L8.take i).map fun _ => V.bl true))) ⟨fun c o nc e => by rw [upd_ne nc]; exact e, by rw [upd_same]; rfl⟩ (fun i G2 hi q2 => SqL.of (q2.1 _ _ (ne_of_none gG nD2) gG)) (fun i y G2 hy ⟨n1, n2⟩ => ?_) (fun G2 ⟨n1, n2⟩ => ?_)
        · have my : y ∈ L8 := List.mem_of_getElem? hy
          have eG2 : Same H19 G2 := fun c o k => n1 c o (ne_of_none (eG _ _ k) nD2) (eG _ _ k)
          refine ⟨rfl, _, rfl, _, rfl, Beside.neq (hB G2 eG2 y my) (M0.same eG2) g.lay ⟨_, n2, ?_, ?_, ?_⟩⟩
          · rw [List.length_map, List.length_take, len8, sizeLine_eq]
            omega
          · intro c o nc e
            rw [upd_ne nc]
            exact n1 c o nc e
          · rw [upd_same]
            exact congrArg (fun z => some (HO.lst z)) (const_step hy)
        · rw [List.take_length, map_const_bl] at n2
          have eG2 : Same H19 G2 := fun c o k => n1 c o (ne_of_none (eG _ _ k) nD2) (eG _ _ k)
          refine ⟨D2, _, rfl, SqL.of n2, ?_⟩
          rw [all_const true L8 (by intro z; rw [z] at len8; cases len8)]
          exact q _ (E19.trans (ButS.same eG2)) (by
            obtain ⟨a, b, c, hp⟩ := S19
            exact ⟨a, b, c, eG2 _ _ hp⟩)
end
end OB
namespace OB
open PySem PySem.Spec PyProof.Rows L2 LamX
/-! ### lands refused, asked behind a lambda -/
theorem due_one {xs : List V} {i j : Nat} (a : DueAt xs i) (b : DueAt xs j) : i = j := by
  obtain ⟨a1, a2, a3, a4⟩ := a
  obtain ⟨b1, b2, b3, b4⟩ := b
  rcases Nat.lt_trichotomy i j with z | z | z
  · have q := a3 (by omega)
    rw [b2 i z] at q
    cases q
  · exact z
  · have q := b3 (by omega)
    rw [a2 j z] at q
    cases q
theorem due_odd {xs : List V} {i : Nat} (a : DueAt xs i) (h : ∀ j, j < xs.length → oddAt xs j = false) (two : 2 ≤ xs.length) : False := by
  obtain ⟨a1, a2, a3, a4⟩ := a
  rcases Nat.lt_or_eq_of_le a1 with z | z
  · have q := a3 z
    rw [h i z] at q
    cases q
  · have := a4 z
    omega
/-- what is no list of names: the first odd thing's index -/
def WhyA (K : PySem.W.Frag) (H : Hp) (v : V) (k : Kd) (i : Nat) : Prop := (fSeq v k = false ∧ i = 0) ∨ (fSeq v k = true ∧ ∃ (a : Addr) (tp : Bool) (xs : List V), v = .ref a ∧ H a = some (mkX tp xs) ∧ AllAny K H xs ∧ xs.length < 1000 ∧ DueAt xs i)
theorem mkX_at {tp tq : Bool} {xs ys : List V} (h : mkX tp xs = mkX tq ys) : xs = ys := by
  cases tp <;> cases tq
  · exact HO.lst.inj h
  · cases h
  · cases h
  · exact HO.tup.inj h
theorem met_addr {K : PySem.W.Frag} {C CA CM x dx : Addr} {H : Hp} {v m : V} {k km : Kd} {i : Nat} {Q : VK} (nx : H x = none) (ndx : H dx = none) (ne : dx ≠ x) (hv : Any K H v k) (hm : Any K H m km) (why : WhyA K H v k i) (q : ∀ G T, Same H G → H T = none → G T = some (.tup [.str "addresses", .int (i : Nat)]) → Q (.ref T) G) :
    spLandInit K C CA CM [.ref x, v, m] (upd (upd H dx (.own x)) x (.ins C dx [])) (fun r H' => r = .non ∧ told2 Q "told" (.ref x) H') (EchM CA CM Q) := by
  have e0 : Same H (upd (upd H dx (.own x)) x (.ins C dx [])) := fun b o e => by
    rw [upd_ne (ne_of_none e nx), upd_ne (ne_of_none e ndx)]
    exact e
  have two : 2 ≤ sizeLine := by decide
  have fin : ∀ H' d, Same (upd (upd H dx (.own x)) x (.ins C dx [])) H' → H' d = some (.xd [("index", .int (i : Nat))]) → EchM CA CM Q (.ref CA) (some d) H' := fun H' d e hd =>
    .inl ⟨rfl, d, _, rfl, hd, two, fun T nT => q _ T ((e0.trans e).trans (Same.new nT)) ((e0.trans e).free nT) upd_same⟩
  refine ⟨x, dx, v, m, k, km, rfl, upd_same, hv.same e0, hm.same e0, fun h => ?_, fun h => ?_⟩
  · rcases why with ⟨_, rfl⟩ | ⟨z, _⟩
    · exact fun H' d e _ hd => fin H' d e hd
    · rw [h] at z
      cases z
  · rcases why with ⟨z, _⟩ | ⟨_, a, tp, xs, rfl, ha, aa, l, due⟩
    · rw [h] at z
      cases z
    · refine ⟨a, tp, xs, rfl, SqX.at (e0 _ _ ha), aa.same e0, l, fun j H' d dj e _ hd => ?_, fun h1 h2 => (due_odd due h1 h2).elim⟩
      obtain rfl := due_one due dj
      exact fin H' d e hd
theorem met_most {K : PySem.W.Frag} {C CA CM x dx n : Addr} {H : Hp} {ss : List Str} {m : V} {km : Kd} {Q : VK} (nx : H x = none) (ndx : H dx = none) (ne : dx ≠ x) (hn : H n = some (.lst (ss.map V.str))) (g : GoodN ss) (hm : Any K H m km) (no : numFrom 1 m km = false) (q : ∀ G T, Same H G → H T = none → G T = some (.tup [.str "most", m]) → Q (.ref T) G) :
    spLandInit K C CA CM [.ref x, .ref n, m] (upd (upd H dx (.own x)) x (.ins C dx [])) (fun r H' => r = .non ∧ told2 Q "told" (.ref x) H') (EchM CA CM Q) := by
  have e0 : Same H (upd (upd H dx (.own x)) x (.ins C dx [])) := fun b o e => by
    rw [upd_ne (ne_of_none e nx), upd_ne (ne_of_none e ndx)]
    exact e
  have two : 2 ≤ sizeLine := by decide
  refine ⟨x, dx, .ref n, m, .lst, km, rfl, upd_same, .lst (e0 _ _ hn), hm.same e0, (fun h => by cases h), fun _ => ⟨n, false, ss.map V.str, rfl, SqX.at (e0 _ _ hn), g.any, by rw [List.length_map]; have := g.few; omega, fun j H' d due _ _ _ => ?_, fun _ _ => ⟨fun _ H' d b _ hd => ?_, fun i e hi H' b l => ?_⟩⟩⟩
  · exact (due_odd due g.odd (by rw [List.length_map]; exact g.two)).elim
  · have e1 : Same H H' := made_same nx ndx b
    exact .inr ⟨rfl, d, _, rfl, hd, two, fun T nT => q _ T (e1.trans (Same.new nT)) (e1.free nT) upd_same⟩
  · rw [e] at no
    have y : decide (1 ≤ i) = false := no
    rw [decide_eq_true hi] at y
    cases y
/-! ### all but the source and the tables -/
def ButN (p : Addr) (H H' : Hp) : Prop := ∀ b o, b ≠ p → (∀ ps, o ≠ .tbl ps) → H b = some o → H' b = some o
theorem ButN.refl {p : Addr} {H : Hp} : ButN p H H := fun _ _ _ _ h => h
theorem ButN.trans {p : Addr} {H H1 H2 : Hp} (a : ButN p H H1) (b : ButN p H1 H2) : ButN p H H2 := fun x o n m e => b x o n m (a x o n m e)
theorem ButN.of {p : Addr} {H H' : Hp} (a : ButS p H H') : ButN p H H' := fun x o n _ e => a x o n e
theorem ButN.same {p : Addr} {H H' : Hp} (a : Same H H') : ButN p H H' := fun x o _ _ e => a x o e
theorem ButN.ext {p : Addr} {H H' : Hp} (a : ExtN H H') : ButN p H H' := fun x o _ m e => a x o e m
theorem src_ne {p c : Addr} {H : Hp} {o : HO} (S : Src H p) (h : H c = some o) (n : ∀ xs, o ≠ .lst xs) : c ≠ p := fun z => by
  obtain ⟨x, y, w, hp⟩ := S
  rw [z, hp] at h
  exact n _ (Option.some.inj h).symm
theorem Tabs.but {T : List (Addr × Str)} {p : Addr} {H H' : Hp} (t : Tabs T H) (S : Src H p) (e : ButS p H H') : Tabs T H' := fun y hy => by
  obtain ⟨ps, h1, h2, h3⟩ := t y hy
  refine ⟨ps, e _ _ (src_ne S h1 (by intro xs z; cases z)) h1, h2, fun pos cv hc => ?_⟩
  obtain ⟨c, e1, e2⟩ := h3 pos cv hc
  exact ⟨c, e1, e _ _ (src_ne S e2 (by intro xs z; unfold CodeO at z; cases z)) e2⟩
theorem Tabs.same {T : List (Addr × Str)} {H H' : Hp} (t : Tabs T H) (e : Same H H') : Tabs T H' := t.ext e
theorem Src.ext {p : Addr} {H H' : Hp} (S : Src H p) (e : ExtN H H') : Src H' p := by
  obtain ⟨a, b, c, hp⟩ := S
  exact ⟨a, b, c, e _ _ hp (by intro ps z; cases z)⟩
theorem Src.same {p : Addr} {H H' : Hp} (S : Src H p) (e : Same H H') : Src H' p := by
  obtain ⟨a, b, c, hp⟩ := S
  exact ⟨a, b, c, e _ _ hp⟩
/-- an object that is no table stays -/
theorem ExtN.any {K : PySem.W.Frag} {H H' : Hp} {v : V} {k : Kd} (e : ExtN H H') (h : Any K H v k) : Any K H' v k := by
  cases h with
  | non => exact .non
  | bl b => exact .bl b
  | int i => exact .int i
  | str h => exact .str h
  | lst q => exact .lst (e _ _ q (by intro ps z; cases z))
  | tup q => exact .tup (e _ _ q (by intro ps z; cases z))
  | dct q => exact .dct (e _ _ q (by intro ps z; cases z))
  | fn q c => exact .fn q c
  | ins q o => exact .ins (e _ _ q (by intro ps z; cases z)) o
theorem mkX_tbl {tp : Bool} {xs : List V} (ps : Array Value) : mkX tp xs ≠ .tbl ps := by
  cases tp <;> (intro z; cases z)
theorem WhyA.ext {K : PySem.W.Frag} {H H' : Hp} {v : V} {k : Kd} {i : Nat} (e : ExtN H H') (h : WhyA K H v k i) : WhyA K H' v k i := by
  rcases h with h | ⟨h, a, tp, xs, e1, e2, e3, e4⟩
  · exact .inl h
  · exact .inr ⟨h, a, tp, xs, e1, e _ _ e2 mkX_tbl, fun x m => (e3 x m).elim fun k q => ⟨k, ExtN.any e q⟩, e4⟩
theorem WhyA.same {K : PySem.W.Frag} {H H' : Hp} {v : V} {k : Kd} {i : Nat} (e : Same H H') (h : WhyA K H v k i) : WhyA K H' v k i := WhyA.ext (fun b o q _ => e b o q) h
end OB
namespace OB
open PySem PySem.Spec PyProof.Rows L2 LamX
theorem ExtN.same {H H1 H2 : Hp} (a : ExtN H H1) (b : Same H1 H2) : ExtN H H2 := a.trans (ExtN.of b)
theorem asked_addr {K : PySem.W.Frag} {C CA CM : Addr} {TT : List (Addr × Str)} {σ : L2.St} {G : Hp} {v m : V} {k km : Kd} {i j d : Nat} {Qb : Bool → Hp → Prop} (hi : σ[i]? = some (some v)) (hj : σ[j]? = some (some (.int (d : Nat)))) (tabs : Tabs TT G) (hv : Any K G v k) (hm : ∀ G', Any K G' m km) (why : WhyA K G v k d)
    (q : ∀ G', ExtN G G' → Tabs TT G' → Qb true G') : tB (tCall (spSame (SameV K C 3)) [] E0 (tCons (tLam TT (TTMet CA CM) fun E => tMake C (spLandInit K C CA CM) [] E (tCons (tVar i) (tCons (tC m) tNil))) (tCons (tTup (tCons (tC (.str "addresses")) (tCons (tVar j) tNil))) tNil))) σ G Qb := by
  have two : 2 ≤ sizeLine := by decide
  refine ⟨tabs, fun G1 e1 t1 => ⟨v, hi, fun x dx nx ndx ne => ?_⟩⟩
  refine met_addr nx ndx ne (ExtN.any e1 hv) (hm _) (why.ext e1) fun G2 T s2 nT gT => ?_
  refine ⟨_, hj, two, fun T2 nT2 => ?_⟩
  have g1 : (upd G2 T2 (.tup [.str "addresses", .int (d : Nat)])) T = some (mkX true [.str "addresses", .int (d : Nat)]) := Same.new nT2 _ _ gT
  have g2 : (upd G2 T2 (.tup [.str "addresses", .int (d : Nat)])) T2 = some (mkX true [.str "addresses", .int (d : Nat)]) := upd_same
  refine ⟨.ref T, .ref T2, rfl, SameW.seq (tp := true) g1 g2 (by simp) (.cons (SameW.str (by decide)) (.cons (SameW.int _) .nil)), fun G3 s3 => ⟨true, rfl, ?_⟩⟩
  have s : Same G1 G3 := s2.trans ((Same.new nT2).trans s3)
  exact q _ (ExtN.same e1 s) (Tabs.same t1 s)
theorem asked_most {K : PySem.W.Frag} {C CA CM n : Addr} {TT : List (Addr × Str)} {σ : L2.St} {G : Hp} {ss : List Str} {m : V} {km : Kd} {i j : Nat} {Qb : Bool → Hp → Prop} (hi : σ[i]? = some (some (.ref n))) (hj : σ[j]? = some (some m)) (tabs : Tabs TT G) (hn : G n = some (.lst (ss.map V.str))) (g : GoodN ss) (hm : Any K G m km) (no : numFrom 1 m km = false)
    (sm : ∀ G', ExtN G G' → SameV K C 2 G' m m) (q : ∀ G', ExtN G G' → Tabs TT G' → Qb true G') : tB (tCall (spSame (SameV K C 3)) [] E0 (tCons (tLam TT (TTMet CA CM) fun E => tMake C (spLandInit K C CA CM) [] E (tCons (tVar i) (tCons (tVar j) tNil))) (tCons (tTup (tCons (tC (.str "most")) (tCons (tVar j) tNil))) tNil))) σ G Qb := by
  have two : 2 ≤ sizeLine := by decide
  refine ⟨tabs, fun G1 e1 t1 => ⟨_, hi, _, hj, fun x dx nx ndx ne => ?_⟩⟩
  refine met_most nx ndx ne (e1 _ _ hn (by intro ps z; cases z)) g (ExtN.any e1 hm) no fun G2 T s2 nT gT => ?_
  refine ⟨_, hj, two, fun T2 nT2 => ?_⟩
  have g1 : (upd G2 T2 (.tup [.str "most", m])) T = some (mkX true [.str "most", m]) := Same.new nT2 _ _ gT
  have g2 : (upd G2 T2 (.tup [.str "most", m])) T2 = some (mkX true [.str "most", m]) := upd_same
  refine ⟨.ref T, .ref T2, rfl, SameW.seq (tp := true) g1 g2 (by simp) (.cons (SameW.str (by decide)) (.cons (sm _ (ExtN.same e1 (s2.trans (Same.new nT2)))) .nil)), fun G3 s3 => ⟨true, rfl, ?_⟩⟩
  have s : Same G1 G3 := s2.trans ((Same.new nT2).trans s3)
  exact q _ (ExtN.same e1 s) (Tabs.same t1 s)
/-! ### what stands while the law looks -/
theorem Any.src {K : PySem.W.Frag} {H H' : Hp} {p : Addr} {v : V} {k : Kd} (h : Any K H v k) (S : Src H p) (S' : Src H' p) (b : ButS p H H') : Any K H' v k := by
  cases h with
  | non => exact .non
  | bl b => exact .bl b
  | int i => exact .int i
  | str h => exact .str h
  | @lst a xs q =>
    by_cases e : a = p
    · obtain ⟨x, y, z, hp⟩ := S'
      rw [e]
      exact .lst hp
    · exact .lst (b _ _ e q)
  | tup q => exact .tup (b _ _ (src_ne S q (by intro xs z; cases z)) q)
  | dct q => exact .dct (b _ _ (src_ne S q (by intro xs z; cases z)) q)
  | fn q c => exact .fn q c
  | ins q o => exact .ins (b _ _ (src_ne S q (by intro xs z; cases z)) q) o
theorem Any.putL {K : PySem.W.Frag} {H : Hp} {l : Addr} {xs ys : List V} {v : V} {k : Kd} (h : Any K H v k) (hl : H l = some (.lst xs)) : Any K (upd H l (.lst ys)) v k := by
  cases h with
  | non => exact .non
  | bl b => exact .bl b
  | int i => exact .int i
  | str h => exact .str h
  | @lst a zs q =>
    by_cases e : a = l
    · rw [e]
      exact .lst upd_same
    · exact .lst (by rw [upd_ne e]; exact q)
  | tup q => exact .tup (by rw [upd_ne (ne_of q hl (by intro z; cases z))]; exact q)
  | dct q => exact .dct (by rw [upd_ne (ne_of q hl (by intro z; cases z))]; exact q)
  | fn q c => exact .fn q c
  | ins q o => exact .ins (by rw [upd_ne (ne_of q hl (by intro z; cases z))]; exact q) o
theorem AllAny.ext {K : PySem.W.Frag} {H H' : Hp} {xs : List V} (h : AllAny K H xs) (e : ExtN H H') : AllAny K H' xs := fun x m => (h x m).elim fun k q => ⟨k, ExtN.any e q⟩
theorem AllAny.src {K : PySem.W.Frag} {H H' : Hp} {p : Addr} {xs : List V} (h : AllAny K H xs) (S : Src H p) (S' : Src H' p) (b : ButS p H H') : AllAny K H' xs := fun x m => (h x m).elim fun k q => ⟨k, q.src S S' b⟩
theorem AllAny.putL {K : PySem.W.Frag} {H : Hp} {l : Addr} {xs ys zs : List V} (h : AllAny K H zs) (hl : H l = some (.lst xs)) : AllAny K (upd H l (.lst ys)) zs := fun x m => (h x m).elim fun k q => ⟨k, q.putL hl⟩
theorem Tabs.putL {T : List (Addr × Str)} {H : Hp} {l : Addr} {xs ys : List V} (t : Tabs T H) (hl : H l = some (.lst xs)) : Tabs T (upd H l (.lst ys)) := fun y hy => by
  obtain ⟨ps, h1, h2, h3⟩ := t y hy
  refine ⟨ps, by rw [upd_ne (ne_of h1 hl (by intro z; cases z))]; exact h1, h2, fun pos cv hc => ?_⟩
  obtain ⟨c, e1, e2⟩ := h3 pos cv hc
  exact ⟨c, e1, by rw [upd_ne (ne_of e2 hl (by intro z; unfold CodeO at z; cases z))]; exact e2⟩
structure RS (K : PySem.W.Frag) (TT : List (Addr × Str)) (p n od : Addr) (ss : List Str) (ys : List V) (H G : Hp) : Prop where
  but : ButN p H G
  src : Src G p
  tabs : Tabs TT G
  odv : G od = some (.lst ys)
  odp : od ≠ p
  any : AllAny K G ys
  nm : G n = some (.lst (ss.map V.str))
  np : n ≠ p
section
variable {K : PySem.W.Frag} {TT : List (Addr × Str)} {p n od : Addr} {ss : List Str} {ys : List V} {H G G' : Hp}
theorem RS.ext (R : RS K TT p n od ss ys H G) (e : ExtN G G') (t : Tabs TT G') : RS K TT p n od ss ys H G' :=
  ⟨R.but.trans (ButN.ext e), Src.ext R.src e, t, e _ _ R.odv (by intro ps z; cases z), R.odp, R.any.ext e, e _ _ R.nm (by intro ps z; cases z), R.np⟩
theorem RS.same (R : RS K TT p n od ss ys H G) (e : Same G G') : RS K TT p n od ss ys H G' := R.ext (ExtN.of e) (Tabs.same R.tabs e)
theorem RS.bs (R : RS K TT p n od ss ys H G) (e : ButS p G G') (S : Src G' p) : RS K TT p n od ss ys H G' :=
  ⟨R.but.trans (ButN.of e), S, Tabs.but R.tabs R.src e, e _ _ R.odp R.odv, R.odp, R.any.src R.src S e, e _ _ R.np R.nm, R.np⟩
/-- a list of its own is written -/
theorem RS.putL {l : Addr} {xs zs : List V} (R : RS K TT p n od ss ys H G) (hl : G l = some (.lst xs)) (lp : l ≠ p) (lo : l ≠ od) (ln : l ≠ n) (own : ∀ b o, b ≠ p → (∀ ps, o ≠ .tbl ps) → H b = some o → b ≠ l) : RS K TT p n od ss ys H (upd G l (.lst zs)) :=
  ⟨fun b o nb m e => by rw [upd_ne (own b o nb m e)]; exact R.but b o nb m e, R.src.put lp, Tabs.putL R.tabs hl, by rw [upd_ne lo.symm]; exact R.odv, R.odp, R.any.putL hl, by rw [upd_ne ln.symm]; exact R.nm, R.np⟩
theorem odds_start {zs vs : List V} {el : Addr} {J : Hp} (nod : J od = none) (nel : (upd J od (.lst zs)) el = none) (c : Same H J) (S : Src H p) (t : Tabs TT H) (hn : H n = some (.lst (ss.map V.str))) (np : n ≠ p) (any : AllAny K J (zs ++ vs)) :
    RS K TT p n od ss (zs ++ vs) H (upd (upd (upd J od (.lst zs)) el (.lst vs)) od (.lst (zs ++ vs))) := by
  have e1 : Same J (upd (upd J od (.lst zs)) el (.lst vs)) := (Same.new nod).trans (Same.new nel)
  have go : (upd (upd J od (.lst zs)) el (.lst vs)) od = some (.lst zs) := Same.new nel _ _ upd_same
  have S1 : Src J p := Src.same S c
  have odp : od ≠ p := S1.ne nod
  refine ⟨fun b o _ _ e => ?_, (Src.same S1 e1).put odp, Tabs.putL (Tabs.same t (c.trans e1)) go, upd_same, odp, (any.same e1).putL go, ?_, np⟩
  · rw [upd_ne (ne_of_none (c _ _ e) nod)]
    exact e1 _ _ (c _ _ e)
  · rw [upd_ne (ne_of_none (c _ _ hn) nod)]
    exact e1 _ _ (c _ _ hn)
end
/-- what is tried: a thing that is no list of names, and the index that is told -/
def TryOk (K : PySem.W.Frag) (G : Hp) (x : V) : Prop := ∃ (T : Addr) (v : V) (k : Kd) (d : Nat), x = .ref T ∧ G T = some (.tup [v, .int (d : Nat)]) ∧ Any K G v k ∧ WhyA K G v k d
theorem TryOk.ext {K : PySem.W.Frag} {G G' : Hp} {x : V} (h : TryOk K G x) (e : ExtN G G') : TryOk K G' x := by
  obtain ⟨T, v, k, d, e1, e2, e3, e4⟩ := h
  exact ⟨T, v, k, d, e1, e _ _ e2 (by intro ps z; cases z), ExtN.any e e3, e4.ext e⟩
theorem tries_ext {K : PySem.W.Frag} {G G' : Hp} {L : List V} (h : ∀ x ∈ L, TryOk K G x) (e : ExtN G G') : ∀ x ∈ L, TryOk K G' x := fun x m => (h x m).ext e
theorem tries_new {K : PySem.W.Frag} {G : Hp} {L : List V} {a : Addr} {u : HO} (h : ∀ x ∈ L, TryOk K G x) (n : G a = none) : ∀ x ∈ L, TryOk K (upd G a u) x := tries_ext h (ExtN.of (Same.new n))
theorem tries_one {K : PySem.W.Frag} {G : Hp} {L : List V} {T : Addr} {v : V} {k : Kd} {d : Nat} (h : ∀ x ∈ L, TryOk K G x) (n : G T = none) (a : Any K G v k) (w : WhyA K G v k d) : ∀ x ∈ L ++ [V.ref T], TryOk K (upd G T (.tup [v, .int (d : Nat)])) x := fun x m => by
  rcases List.mem_append.mp m with z | z
  · exact tries_new h n x z
  · rw [List.mem_singleton.mp z]
    exact ⟨T, v, k, d, rfl, upd_same, a.same (Same.new n), w.same (Same.new n)⟩
/-- an odd most, known as itself -/
def MostOk (K : PySem.W.Frag) (C : Addr) (G : Hp) (x : V) : Prop := ∃ k, Any K G x k ∧ numFrom 1 x k = false ∧ ∀ G', ExtN G G' → SameV K C 2 G' x x
theorem MostOk.ext {K : PySem.W.Frag} {C : Addr} {G G' : Hp} {x : V} (h : MostOk K C G x) (e : ExtN G G') : MostOk K C G' x := by
  obtain ⟨k, h1, h2, h3⟩ := h
  exact ⟨k, ExtN.any e h1, h2, fun G2 e2 => h3 G2 (e.trans e2)⟩
theorem MostOk.new {K : PySem.W.Frag} {C : Addr} {G : Hp} {x : V} {a : Addr} {u : HO} (h : MostOk K C G x) (n : G a = none) : MostOk K C (upd G a u) x := h.ext (ExtN.of (Same.new n))
theorem MostOk.non {K : PySem.W.Frag} {C : Addr} {G : Hp} : MostOk K C G .non := ⟨_, .non, rfl, fun _ _ => .non⟩
theorem MostOk.bl {K : PySem.W.Frag} {C : Addr} {G : Hp} (b : Bool) : MostOk K C G (.bl b) := ⟨_, .bl b, rfl, fun _ _ => .bl b⟩
theorem MostOk.int {K : PySem.W.Frag} {C : Addr} {G : Hp} {i : Int} (h : decide (1 ≤ i) = false) : MostOk K C G (.int i) := ⟨_, .int i, h, fun _ _ => .int i⟩
theorem MostOk.str {K : PySem.W.Frag} {C : Addr} {G : Hp} {x : Str} (h : x.length ≤ 100) : MostOk K C G (.str x) := ⟨_, .str h, rfl, fun _ _ => .str h⟩
theorem MostOk.one {K : PySem.W.Frag} {C : Addr} {G : Hp} {a : Addr} {tp : Bool} {i : Int} (h : G a = some (mkX tp [.int i])) : MostOk K C G (.ref a) := by
  obtain ⟨k, ak, _⟩ := anyX (K := K) h
  exact ⟨k, ak, rfl, fun G' e => SameW.seq (tp := tp) (e _ _ h mkX_tbl) (e _ _ h mkX_tbl) (by simp) (.cons (SameW.int i) .nil)⟩
theorem MostOk.dct {K : PySem.W.Frag} {C : Addr} {G : Hp} {a : Addr} (h : G a = some (.dK [])) : MostOk K C G (.ref a) :=
  ⟨_, .dct h, rfl, fun G' e => SameW.dct (e _ _ h (by intro ps z; cases z)) (e _ _ h (by intro ps z; cases z)) fun G2 x y hx hy => SameW.seq (tp := false) hx hy (by simp) .nil⟩
theorem MostOk.land {K : PySem.W.Frag} {C : Addr} {G : Hp} {o : Addr} {ss : List Str} {m : Int} (h : LandAt G C o (ss.map V.str) m) (hs : ∀ s ∈ ss, PyData.canLay0 (.str s) = true) (oc : OwnC K C) : MostOk K C G (.ref o) := by
  obtain ⟨dx, T, h1, h2⟩ := h
  exact ⟨_, .ins h1 oc, rfl, fun G' e => SameW.land ⟨dx, T, e _ _ h1 (by intro ps z; cases z), e _ _ h2 (by intro ps z; cases z)⟩ hs⟩
end OB
namespace OB
open PySem PySem.Spec PyProof.Rows L2 LamX
/-! ### the law's look at what is refused -/
abbrev sRefused : Stmt := top 61
/-- a def whose code object is told -/
structure FunC (K : PySem.W.Frag) (x qual : Str) (st : Stmt) (f : Addr) (fd : FuncData) (c : Addr) : Prop where
  ex : ∃ (oc : Value) (od : Option Addr) (kV doc pm : Value) (an : Option Addr) (ct : Value) (osl : Array (Option Value)),
    fd = PySem.W.fnOf x qual (defArgs st) (defBody st) (defScope st) .none kV doc pm an (.ref c) ct ∧ K.lookup f = some ⟨oc, od, .func fd, osl⟩ ∧ PySem.W.codeIn K (.ref c) qual = true
  kp : PySem.W.keepIn K (.ref f) = true
section
variable {P : Program} {w : World} {K : PySem.W.Frag} {mg : Str → Option Value} {base : Heap}
theorem FunC.ok {x qual : Str} {st : Stmt} {f c : Addr} {fd : FuncData} {N ps : List Str} {k : Nat} {sp : Sp} (F : FunC K x qual st f fd c) (S : FnScope N ps (defScope st)) (len : ∀ vs H Q E, sp vs H Q E → vs.length = ps.length)
    (hbody : ∀ (A : Around) (outer : List Env) (s : Shared) (H : Hp) (vs : List V) (Q : VK) (E : XK), Room k (A.deeper (envOfC qual (defScope st) s.heap.objs.size f (.ref c))) → sp vs H Q E →
      ∃ t, PSs (cxOf CX0 P w K mg base N qual (defScope st) f (.ref c) A outer s H E).nox (defBody st) t ∧ t { nx := fun _ H' => Q .non H', rt := Q } (start N vs) H) : FnOk P w K mg base CX0 (k + 1) f fd ps sp := by
  obtain ⟨oc, od, kV, doc, pm, an, ct, osl, rfl, lk, hcd⟩ := F.ex
  refine fn_of lk hcd S len fun A outer s H vs Q E hr hsp => ?_
  obtain ⟨t, h, q⟩ := hbody A outer s H vs Q E hr hsp
  exact ⟨t, h.nox, q⟩
theorem scRefused : FnScope ["source", "names", "most", "odds", "k", "some", "turn", "due", "tries", "odd", "held", "found"] ["source", "names", "most"] (defScope sRefused) := ⟨rfl, rfl, rfl, by decide +kernel, rfl, by decide +kernel, by decide +kernel⟩
def spRefused (T : List (Addr × Str)) : Sp := fun vs H Q _ => ∃ (p n : Addr) (ss : List Str) (m : Int), vs = [.ref p, .ref n, .int m] ∧ Src H p ∧ H n = some (.lst (ss.map V.str)) ∧ n ≠ p ∧ GoodN ss ∧ 1 ≤ m ∧ Tabs T H ∧ ∀ H', ButN p H H' → Src H' p → Tabs T H' → Q (.bl true) H'
def qLam : Str := "_law_refused_right.<locals>.<lambda>"
theorem ok_refused {f fD fP fO fS fT C CA CM fI fE fA fM c Pt : Addr} {fd fdD fdP fdO fdS fdT fdI fdE fdA fdM : FuncData} {oT : Obj} {TT : List (Addr × Str)} (F : FunC K "_law_refused_right" "_law_refused_right" sRefused f fd c) (T : TxtC mg) (TD : TxtD mg) (TF : TxtF mg) (L : LandT P w K mg base C CA CM fI fE fA fM fdI fdE fdA fdM)
    (GD : FnOk P w K mg base CX0 1 fD fdD ["source", "many"] spDraw) (gD : mg "_law_draw" = some (.ref fD)) (kD : PySem.W.keepIn K (.ref fD) = true) (bD : Binds K fdD ["source", "many"] [])
    (GP : FnOk P w K mg base CX0 2 fP fdP ["source", "some"] (spPick K)) (gP : mg "_law_pick" = some (.ref fP)) (kP : PySem.W.keepIn K (.ref fP) = true) (bP : Binds K fdP ["source", "some"] [])
    (GO : FnOk P w K mg base CX0 2 fO fdO ["names"] (spLOdd K)) (gO : mg "_law_first_odd" = some (.ref fO)) (kO : PySem.W.keepIn K (.ref fO) = true) (bO : Binds K fdO ["names"] [])
    (GS : FnOk P w K mg base CX0 4 fS fdS ["found", "wanted"] (spSame (SameV K C 3))) (gS : mg "_law_same" = some (.ref fS)) (kS : PySem.W.keepIn K (.ref fS) = true) (bS : Binds K fdS ["found", "wanted"] [])
    (FT : Fun K "_law_met" "_law_met" sMet fT fdT) (bT : Binds K fdT ["ask"] []) (gT : mg "_law_met" = some (.ref fT)) (lT : K.lookup fT = some oT) (cT : oT.cls = .type "function") (ME : MetK K mg CA CM)
    (TB : TabB base mg c Pt) (hT : ∀ y ∈ TT, y.1 = Pt → y.2 = qLam) (mT : (Pt, qLam) ∈ TT) : FnOk P w K mg base CX0 8 f fd ["source", "names", "most"] (spRefused TT) := by
  obtain ⟨gk, kI⟩ := L.kI
  obtain ⟨ocT, odT, kVT, docT, pmT, anT, cdT, ctT, oslT, rfl, lkT, hcT⟩ := FT.ex
  refine F.ok scRefused (fun vs H Q E h => ?_) (fun A outer s H vs Q E hr h => ?_)
  · obtain ⟨p, n, ss, m, rfl, _⟩ := h
    rfl
  · obtain ⟨p, n, ss, m, rfl, S, hn, np, g, hm, tabs, q⟩ := h
    have nd := scRefused.nd
    have hr1 := hr.mono (show 1 ≤ 7 by decide)
    have hr2 := hr.mono (show 2 ≤ 7 by decide)
    have hr4 := hr.mono (show 4 ≤ 7 by decide)
    have hr5 := hr.mono (show 5 ≤ 7 by decide)
    refine ⟨_, (pss_cons (ps_set (i := 3) nd rfl (Or.inl rfl) (pe_lst (pa_cons pe_non (pa_cons pe_int (pa_cons pe_str (pa_cons pe_str (pa_cons pe_str (pa_cons pe_str (pa_cons pe_str (pa_cons pe_str (pa_cons (pe_lst (pa_cons pe_str pa_nil)) (pa_cons (pe_tup (pa_cons pe_str pa_nil)) (pa_cons pe_bl (pa_cons pe_dnewK (pa_cons pe_str (pa_cons (pe_ix ix_list (pv 1) pe_int (fun _ _ => rfl)) (pa_cons (pe_glob (v := .ref fT) (by rfl) gT rfl) pa_nil)))))))))))))))))
      (pss_cons (ps_expr (pe_bm PySem.F.plainAttrs_list PySem.F.slot_list_extend PySem.F.type_list_extend mt_extend (pv 3) (pa_cons (pe_lst (pa_cons pe_str (pa_cons pe_str (pa_cons pe_str (pa_cons pe_str (pa_cons pe_str pa_nil)))))) pa_nil)))
      (pss_cons (ps_for PassesOwn.never rfl (pi_range1 (by rfl) TD.rng (pa_cons pe_int pa_nil)) (pg_name (i := 4) nd rfl (Or.inl rfl))
      (pss_cons (ps_set (i := 5) nd rfl (Or.inr rfl) (pe_callTy call_list_of (by rfl) T.list (by decide +kernel) (pa_cons (pv 1) pa_nil)))
      (pss_cons (ps_for PassesOwn.never rfl (pi_range1 (by rfl) TD.rng (pa_cons (pe_op op_add pe_int (pe_call GD hr1 (by rfl) gD kD bD .nil pass0 (pa_cons (pv 0) (pa_cons pe_int pa_nil)))) pa_nil)) (pg_name (i := 6) nd rfl (Or.inl rfl))
        (pss_one (ps_expr (pe_bm PySem.F.plainAttrs_list PySem.F.slot_list_insert PySem.F.type_list_insert mt_insert (pv 5) (pa_cons (pe_call GD hr1 (by rfl) gD kD bD .nil pass0 (pa_cons (pv 0) (pa_cons (pe_op op_add (pe_callB call_len_seq (by rfl) TD.len PySem.boot_len (pa_cons (pv 5) pa_nil)) pe_int) pa_nil))) (pa_cons (pe_call GP hr2 (by rfl) gP kP bP .nil pass0 (pa_cons (pv 0) (pa_cons (pv 3) pa_nil))) pa_nil))))))
      (pss_cons (ps_set (i := 7) nd rfl (Or.inl rfl) (pe_call GO hr2 (by rfl) gO kO bO .nil pass0 (pa_cons (pv 5) pa_nil)))
      (pss_one (ps_if (PW.pt (pw_and (pt_cmpR op_notN (pv 7) pe_non (nomark _)) (pw_and1 (pt_not (pt_val (pe_call GS hr4 (by rfl) gS kS bS .nil pass0 (pa_cons (pe_lamcall (k := 5) (T := TT) (t := fun E => tMake C (spLandInit K C CA CM) [] E (tCons (tVar 5) (tCons (tC (.int 0)) tNil))) (TT := TTMet CA CM) (by rfl) gT FT.kp lkT hcT bT scMet rfl (Or.inl rfl) (met_gives ME) TB rfl mT hT hr (lamS_by (sc := defScope sRefused) (by decide +kernel)) rfl (fun _ _ _ _ _ => rfl)
        (fun A outer s H E f c' hr' => pe_make (E := E) L.M L.GI hr' (by rfl) L.gC L.bI .nil (passes_call (takes_of rfl rfl rfl rfl) fun _ _ _ _ h => h) (pa_cons (pv 5) (pa_cons pe_int pa_nil)))) (pa_cons (pe_tup (pa_cons pe_str (pa_cons (pv 7) pa_nil))) pa_nil)))))))) (pss_one (ps_ret pe_bl)) pss_nil))))))
      (pss_cons (ps_set (i := 8) nd rfl (Or.inl rfl) (pe_lst (pa_cons (pe_tup (pa_cons (pe_lst pa_nil) (pa_cons pe_int pa_nil))) (pa_cons (pe_tup (pa_cons (pe_slice sl_list (pv 1) po_none (po_some pe_int)) (pa_cons pe_int pa_nil))) (pa_cons (pe_tup (pa_cons (pe_tup pa_nil) (pa_cons pe_int pa_nil))) (pa_cons (pe_tup (pa_cons pe_non (pa_cons pe_int pa_nil))) (pa_cons (pe_tup (pa_cons pe_int (pa_cons pe_int pa_nil))) (pa_cons (pe_tup (pa_cons pe_str (pa_cons pe_int pa_nil))) (pa_cons (pe_tup (pa_cons pe_dnewK (pa_cons pe_int pa_nil))) (pa_cons (pe_tup (pa_cons pe_bl (pa_cons pe_int pa_nil))) (pa_cons (pe_tup (pa_cons (pe_glob (v := .ref fT) (by rfl) gT rfl) (pa_cons pe_int pa_nil))) pa_nil)))))))))))
      (pss_cons (ps_for PassesOwn.never rfl (pi_list (pv 8)) (pg_tup rfl (pgs_cons (pg_name (i := 5) nd rfl (Or.inr rfl)) (pgs_cons (pg_name (i := 7) nd rfl (Or.inl rfl)) pgs_nil)))
      (pss_one (ps_if (pt_not (pt_val (pe_call GS hr4 (by rfl) gS kS bS .nil pass0 (pa_cons (pe_lamcall (k := 5) (T := TT) (t := fun E => tMake C (spLandInit K C CA CM) [] E (tCons (tVar 5) (tCons (tC .non) tNil))) (TT := TTMet CA CM) (by rfl) gT FT.kp lkT hcT bT scMet rfl (Or.inl rfl) (met_gives ME) TB rfl mT hT hr (lamS_by (sc := defScope sRefused) (by decide +kernel)) rfl (fun _ _ _ _ _ => rfl)
        (fun A outer s H E f c' hr' => pe_make (E := E) L.M L.GI hr' (by rfl) L.gC L.bI .nil (passes_call (takes_of rfl rfl rfl rfl) fun _ _ _ _ h => h) (pa_cons (pv 5) (pa_cons pe_non pa_nil)))) (pa_cons (pe_tup (pa_cons pe_str (pa_cons (pv 7) pa_nil))) pa_nil))))) (pss_one (ps_ret pe_bl)) pss_nil)))
      (pss_cons (ps_for PassesOwn.never rfl (pi_list (pe_lst (pa_cons pe_int (pa_cons (pe_un un_neg pe_int) (pa_cons pe_non (pa_cons pe_bl (pa_cons pe_str (pa_cons (pe_lst (pa_cons pe_int pa_nil)) (pa_cons (pe_tup (pa_cons pe_int pa_nil)) (pa_cons pe_dnewK (pa_cons (pe_make (E := noE) L.M L.GI hr5 (by rfl) L.gC L.bI .nil pass_no (pa_cons (pv 1) (pa_cons (pv 2) pa_nil))) pa_nil))))))))))) (pg_name (i := 9) nd rfl (Or.inr rfl))
      (pss_one (ps_if (pt_not (pt_val (pe_call GS hr4 (by rfl) gS kS bS .nil pass0 (pa_cons (pe_lamcall (k := 5) (T := TT) (t := fun E => tMake C (spLandInit K C CA CM) [] E (tCons (tVar 1) (tCons (tVar 9) tNil))) (TT := TTMet CA CM) (by rfl) gT FT.kp lkT hcT bT scMet rfl (Or.inl rfl) (met_gives ME) TB rfl mT hT hr (lamS_by (sc := defScope sRefused) (by decide +kernel)) rfl (fun _ _ _ _ _ => rfl)
        (fun A outer s H E f c' hr' => pe_make (E := E) L.M L.GI hr' (by rfl) L.gC L.bI .nil (passes_call (takes_of rfl rfl rfl rfl) fun _ _ _ _ h => h) (pa_cons (pv 1) (pa_cons (pv 9) pa_nil)))) (pa_cons (pe_tup (pa_cons pe_str (pa_cons (pv 9) pa_nil))) pa_nil))))) (pss_one (ps_ret pe_bl)) pss_nil)))
      (pss_cons (ps_set (i := 10) nd rfl (Or.inr rfl) (pe_lst (pa_cons pe_int pa_nil)))
      (pss_cons (ps_set (i := 11) nd rfl (Or.inl rfl) (pe_lamcall (k := 5) (T := TT) (t := fun E => tMake C (spLandInit K C CA CM) [] E (tCons (tVar 1) (tCons (tVar 10) tNil))) (TT := TTMet CA CM) (by rfl) gT FT.kp lkT hcT bT scMet rfl (Or.inl rfl) (met_gives ME) TB rfl mT hT hr (lamS_by (sc := defScope sRefused) (by decide +kernel)) rfl (fun _ _ _ _ _ => rfl)
        (fun A outer s H E f c' hr' => pe_make (E := E) L.M L.GI hr' (by rfl) L.gC L.bI .nil (passes_call (takes_of rfl rfl rfl rfl) fun _ _ _ _ h => h) (pa_cons (pv 1) (pa_cons (pv 10) pa_nil)))))
      (pss_cons (ps_expr (pe_bm PySem.F.plainAttrs_list PySem.F.slot_list_append PySem.F.type_list_append mt_append (pv 10) (pa_cons pe_str pa_nil)))
      (pss_one (ps_ret (pe_call GS hr4 (by rfl) gS kS bS .nil pass0 (pa_cons (pv 11) (pa_cons (pe_tup (pa_cons pe_str (pa_cons (pe_lst (pa_cons pe_int (pa_cons pe_str pa_nil))) pa_nil))) pa_nil)))))))))))))), ?_⟩
    obtain ⟨s0, sr, rfl⟩ : ∃ s0 sr, ss = s0 :: sr := by
      cases ss with
      | nil => exact absurd g.two (by decide)
      | cons a b => exact ⟨a, b, rfl⟩
    have txt0 : s0.length ≤ 100 := (names_good s0 (g.inn s0 (List.mem_cons_self ..))).2.1
    refine ⟨by show 1 ≤ sizeLine; decide, fun a1 n1 => ?_⟩
    have c1 := Same.new (u := .lst [.str "a"]) n1
    have i1 : Any K (upd H a1 (.lst [.str "a"])) (.ref a1) .lst := .lst upd_same
    generalize upd H a1 (.lst [.str "a"]) = J1 at c1 i1
    refine ⟨by show 1 ≤ sizeLine; decide, fun a2 n2 => ?_⟩
    have c2 := c1.trans (Same.new (u := .tup [.str "a"]) n2)
    have i12 := i1.same (Same.new (u := .tup [.str "a"]) n2)
    have i2 : Any K (upd J1 a2 (.tup [.str "a"])) (.ref a2) .tup := .tup upd_same
    generalize upd J1 a2 (.tup [.str "a"]) = J2 at c2 i12 i2
    refine fun a3 n3 => ?_
    have c3 := c2.trans (Same.new (u := .dK []) n3)
    have i13 := i12.same (Same.new (u := .dK []) n3)
    have i23 := i2.same (Same.new (u := .dK []) n3)
    have i3 : Any K (upd J2 a3 (.dK [])) (.ref a3) .dct := .dct upd_same
    generalize upd J2 a3 (.dK []) = J3 at c3 i13 i23 i3
    have hn3 : SqL K J3 n ((s0 :: sr).map V.str) := SqL.of (c3 _ _ hn)
    refine ⟨_, rfl, n, _, ((0 : Nat) : Int), .str s0, rfl, rfl, hn3, atI_nat rfl, by show 15 ≤ sizeLine; decide, fun od nod => ?_⟩
    refine ⟨_, rfl, .inl ⟨rfl, _, SqL.of upd_same⟩, by show 5 ≤ sizeLine; decide, fun el nel => ?_⟩
    refine ⟨od, el, _, _, rfl, rfl, Same.new nel _ _ upd_same, upd_same, by show 15 + 5 ≤ sizeLine; decide, ?_⟩
    have S3 : Src J3 p := S.same c3
    have any0 : AllAny K J3 ([V.non, V.int 5, V.str "", V.str "A", V.str "1a", V.str "a-b", V.str "ninesigns", V.str "a b", V.ref a1, V.ref a2, V.bl true, V.ref a3, V.str "_", V.str s0, V.ref fT] ++ [V.str "aB", V.str "a\n", V.str "a_", V.str " a", V.str "a "]) := by
      have sh : ∀ {x : Str}, x.length ≤ 100 → ∃ k, Any K J3 (.str x) k := fun h => ⟨_, .str h⟩
      show ∀ y ∈ [V.non, V.int 5, V.str "", V.str "A", V.str "1a", V.str "a-b", V.str "ninesigns", V.str "a b", V.ref a1, V.ref a2, V.bl true, V.ref a3, V.str "_", V.str s0, V.ref fT, V.str "aB", V.str "a\n", V.str "a_", V.str " a", V.str "a "], ∃ k, Any K J3 y k
      refine all_cons ⟨_, .non⟩ (all_cons ⟨_, .int 5⟩ (all_cons (sh (by decide)) (all_cons (sh (by decide)) (all_cons (sh (by decide)) (all_cons (sh (by decide)) (all_cons (sh (by decide)) (all_cons (sh (by decide)) (all_cons ⟨_, i13⟩ (all_cons ⟨_, i23⟩ (all_cons ⟨_, .bl true⟩ (all_cons ⟨_, i3⟩ (all_cons (sh (by decide)) (all_cons (sh txt0) (all_cons ⟨_, .fn lT cT⟩
        (all_cons (sh (by decide)) (all_cons (sh (by decide)) (all_cons (sh (by decide)) (all_cons (sh (by decide)) (all_cons (sh (by decide)) all_nil)))))))))))))))))))
    have len20 : ([V.non, V.int 5, V.str "", V.str "A", V.str "1a", V.str "a-b", V.str "ninesigns", V.str "a b", V.ref a1, V.ref a2, V.bl true, V.ref a3, V.str "_", V.str s0, V.ref fT] ++ [V.str "aB", V.str "a\n", V.str "a_", V.str " a", V.str "a "]).length = 20 := rfl
    have R := odds_start (n := n) (ss := s0 :: sr) (zs := [V.non, V.int 5, V.str "", V.str "A", V.str "1a", V.str "a-b", V.str "ninesigns", V.str "a b", V.ref a1, V.ref a2, V.bl true, V.ref a3, V.str "_", V.str s0, V.ref fT]) nod nel c3 S tabs hn np any0
    show tSeq _ _ _ _ (upd (upd (upd J3 od (.lst [V.non, V.int 5, V.str "", V.str "A", V.str "1a", V.str "a-b", V.str "ninesigns", V.str "a b", V.ref a1, V.ref a2, V.bl true, V.ref a3, V.str "_", V.str s0, V.ref fT])) el (.lst [V.str "aB", V.str "a\n", V.str "a_", V.str " a", V.str "a "])) od (.lst ([V.non, V.int 5, V.str "", V.str "A", V.str "1a", V.str "a-b", V.str "ninesigns", V.str "a b", V.ref a1, V.ref a2, V.bl true, V.ref a3, V.str "_", V.str s0, V.ref fT] ++ [V.str "aB", V.str "a\n", V.str "a_", V.str " a", V.str "a "])))
    generalize upd (upd (upd J3 od (.lst [V.non, V.int 5, V.str "", V.str "A", V.str "1a", V.str "a-b", V.str "ninesigns", V.str "a b", V.ref a1, V.ref a2, V.bl true, V.ref a3, V.str "_", V.str s0, V.ref fT])) el (.lst [V.str "aB", V.str "a\n", V.str "a_", V.str " a", V.str "a "])) od (.lst ([V.non, V.int 5, V.str "", V.str "A", V.str "1a", V.str "a-b", V.str "ninesigns", V.str "a b", V.ref a1, V.ref a2, V.bl true, V.ref a3, V.str "_", V.str s0, V.ref fT] ++ [V.str "aB", V.str "a\n", V.str "a_", V.str " a", V.str "a "])) = H1 at R ⊢
    generalize [V.non, V.int 5, V.str "", V.str "A", V.str "1a", V.str "a-b", V.str "ninesigns", V.str "a b", V.ref a1, V.ref a2, V.bl true, V.ref a3, V.str "_", V.str s0, V.ref fT] ++ [V.str "aB", V.str "a\n", V.str "a_", V.str " a", V.str "a "] = ys at len20 R
    clear any0 c1 c2 c3 i12 i13 i23 i3 hn3 nod nel n1 n2 n3 S3
    refine ⟨4, rfl, by decide, by decide, ?_⟩
    refine for_range (n := 4) (fun _ σ G => ∃ s4 s5 s6 s7 : Option V, σ = [some (.ref p), some (.ref n), some (.int m), some (.ref od), s4, s5, s6, s7, none, none, none, none] ∧ RS K TT p n od (s0 :: sr) ys H G) ⟨_, _, _, _, rfl, R⟩ ?_ ?_
    · rintro i σ G hi ⟨s4, s5, s6, s7, rfl, R⟩
      refine ⟨_, rfl, n, _, rfl, .inl (SqL.of R.nm), fun sm nsm => ?_⟩
      have lp : sm ≠ p := R.src.ne nsm
      have lo : sm ≠ od := (ne_of_none R.odv nsm).symm
      have ln : sm ≠ n := (ne_of_none R.nm nsm).symm
      have own : ∀ b o, b ≠ p → (∀ ps, o ≠ .tbl ps) → H b = some o → b ≠ sm := fun b o nb mt e => ne_of_none (R.but b o nb mt e) nsm
      have hs1 : (upd G sm (.lst ((s0 :: sr).map V.str))) sm = some (.lst ((s0 :: sr).map V.str)) := upd_same
      have R1 := R.same (Same.new (u := .lst ((s0 :: sr).map V.str)) nsm)
      have a1 : AllAny K (upd G sm (.lst ((s0 :: sr).map V.str))) ((s0 :: sr).map V.str) := g.any
      generalize upd G sm (.lst ((s0 :: sr).map V.str)) = G1 at hs1 R1 a1
      refine ⟨_, rfl, p, 2, rfl, R1.src, by decide, by decide, fun G2 c B2 S2 c0 c2 => ⟨1, c, rfl, rfl, 1 + c, rfl, by omega, by omega, ?_⟩⟩
      refine for_range (n := (1 + c).toNat) (fun i σ G => ∃ s4 s6 : Option V, σ = [some (.ref p), some (.ref n), some (.int m), some (.ref od), s4, some (.ref sm), s6, s7, none, none, none, none] ∧ RS K TT p n od (s0 :: sr) ys H G ∧ ∃ xs, G sm = some (.lst xs) ∧ AllAny K G xs ∧ xs.length = (s0 :: sr).length + i) ⟨_, _, rfl, R1.bs B2 S2, _, B2 _ _ lp hs1, a1.src R1.src S2 B2, by rw [List.length_map]; rfl⟩ ?_ ?_
      · rintro j σ G hj ⟨s4, s6, rfl, R, xs, hx, ax, lx⟩
        have lx20 : xs.length ≤ 20 := by
          have := g.few
          omega
        refine ⟨_, rfl, .inl ⟨rfl, _, SqL.of hx⟩, _, rfl, _, rfl, sm, xs, rfl, .inl (SqL.of hx), _, _, rfl, rfl, p, ((xs.length + 1 : Nat) : Int), rfl, R.src, by omega, small_many (by omega), fun G3 a B3 S3 a0 a1 => ?_⟩
        have R3 := R.bs B3 S3
        refine ⟨_, rfl, _, rfl, p, od, ys, rfl, S3, SqL.of R3.odv, R3.odp, by omega, by omega, fun G4 k y B4 S4 hy => ?_⟩
        have R4 := R3.bs B4 S4
        have hx4 : G4 sm = some (.lst xs) := B4 _ _ lp (B3 _ _ lp hx)
        have ax4 : AllAny K G4 xs := (ax.src R.src S3 B3).src S3 S4 B4
        refine ⟨sm, xs, a, y, rfl, rfl, hx4, by rw [sizeLine_eq]; omega, a0, by omega, ?_⟩
        refine ⟨_, _, rfl, R4.putL hx4 lp lo ln own, _, upd_same, AllAny.putL (fun z mz => ?_) hx4, ?_⟩
        · rcases List.mem_append.mp mz with w1 | w1
          · rcases List.mem_append.mp w1 with w2 | w2
            · exact ax4 z (List.mem_of_mem_take w2)
            · rw [List.mem_singleton.mp w2]
              exact R4.any y (List.mem_of_getElem? hy)
          · exact ax4 z (List.mem_of_mem_drop w1)
        · rw [List.length_append, List.length_append, List.length_take, List.length_drop, List.length_singleton]
          omega
      · rintro σ G ⟨s4, s6, rfl, R, xs, hx, ax, lx⟩
        have lx20 : xs.length ≤ 20 := by
          have := g.few
          omega
        refine ⟨_, rfl, sm, xs, rfl, SqL.of hx, ax, by omega, fun d G5 due e5 => ?_, fun ok two G5 e5 => ?_⟩
        · have R5 := R.same e5
          have e : (!decide (V.int (d : Nat) = V.non)) = true := by
            rw [decide_eq_false (by intro z; cases z)]
            rfl
          refine ⟨_, rfl, rfl, _, rfl, ite2 (fun _ => ?_) (fun z => absurd e z)⟩
          refine asked_addr (i := 5) (j := 7) rfl rfl R5.tabs (.lst (e5 _ _ hx)) (fun _ => .int 0) (.inr ⟨rfl, sm, false, xs, rfl, e5 _ _ hx, ax.same e5, by omega, due⟩) fun G6 e6 t6 => iteF ?_
          exact ⟨_, _, _, _, rfl, R5.ext e6 t6⟩
        · refine ⟨_, rfl, rfl, _, rfl, iteNS rfl ?_⟩
          exact iteF ⟨_, _, _, _, rfl, R.same e5⟩
    · rintro σ G ⟨s4, s5, s6, s7, rfl, R⟩
      have two : 2 ≤ sizeLine := by decide
      have hL : ∀ x ∈ ([] : List V), TryOk K G x := all_nil
      refine ⟨Nat.zero_le _, fun b1 n1 => ?_⟩
      have R := R.same (Same.new (u := .lst []) n1)
      have hL := tries_new (u := .lst []) hL n1
      have an : Any K (upd G b1 (.lst [])) (.ref b1) .lst := .lst upd_same
      have wh : WhyA K (upd G b1 (.lst [])) (.ref b1) .lst 0 := .inr ⟨rfl, b1, false, [], rfl, upd_same, (fun x m => by cases m), by simp, Nat.zero_le _, (fun j hj => absurd hj (Nat.not_lt_zero j)), (fun h => absurd h (Nat.lt_irrefl _)), fun _ => by decide⟩
      generalize upd G b1 (.lst []) = G at R hL an wh
      refine ⟨two, fun t1 m1 => ?_⟩
      have R := R.same (Same.new (u := .tup [.ref b1, .int ((0 : Nat) : Int)]) m1)
      have hL := tries_one hL m1 an wh
      clear an wh
      show _
      generalize upd G t1 (.tup [.ref b1, .int ((0 : Nat) : Int)]) = G at R hL ⊢
      refine ⟨_, rfl, 1, rfl, n, _, rfl, SqL.of R.nm, fun b2 n2 => ?_⟩
      have ec : cutV ((s0 :: sr).map V.str) none (some 1) = [V.str s0] := cut_take _ 1 (by rw [List.length_map]; exact Nat.le_add_left _ _)
      rw [ec]
      have ok1 : ∀ j, j < [V.str s0].length → oddAt [V.str s0] j = false := fun j hj => by
        have j0 : j = 0 := by
          have : j < 1 := hj
          omega
        rw [j0]
        show (!isNameS s0 || false) = false
        rw [(names_good s0 (g.inn s0 (List.mem_cons_self ..))).1]
        rfl
      have R := R.same (Same.new (u := .lst [.str s0]) n2)
      have hL := tries_new (u := .lst [.str s0]) hL n2
      have an : Any K (upd G b2 (.lst [.str s0])) (.ref b2) .lst := .lst upd_same
      have wh : WhyA K (upd G b2 (.lst [.str s0])) (.ref b2) .lst 1 := .inr ⟨rfl, b2, false, [.str s0], rfl, upd_same, all_cons ⟨_, .str txt0⟩ all_nil, by simp, Nat.le_refl _, ok1, (fun h => absurd h (Nat.lt_irrefl _)), fun _ => Nat.lt_succ_self 1⟩
      generalize upd G b2 (.lst [.str s0]) = G at R hL an wh
      refine ⟨two, fun t2 m2 => ?_⟩
      have R := R.same (Same.new (u := .tup [.ref b2, .int ((1 : Nat) : Int)]) m2)
      have hL := tries_one hL m2 an wh
      clear an wh
      show _
      generalize upd G t2 (.tup [.ref b2, .int ((1 : Nat) : Int)]) = G at R hL ⊢
      refine ⟨Nat.zero_le _, fun b3 n3 => ?_⟩
      have R := R.same (Same.new (u := .tup []) n3)
      have hL := tries_new (u := .tup []) hL n3
      have an : Any K (upd G b3 (.tup [])) (.ref b3) .tup := .tup upd_same
      have wh : WhyA K (upd G b3 (.tup [])) (.ref b3) .tup 0 := .inr ⟨rfl, b3, true, [], rfl, upd_same, (fun x m => by cases m), by simp, Nat.zero_le _, (fun j hj => absurd hj (Nat.not_lt_zero j)), (fun h => absurd h (Nat.lt_irrefl _)), fun _ => by decide⟩
      generalize upd G b3 (.tup []) = G at R hL an wh
      refine ⟨two, fun t3 m3 => ?_⟩
      have R := R.same (Same.new (u := .tup [.ref b3, .int ((0 : Nat) : Int)]) m3)
      have hL := tries_one hL m3 an wh
      clear an wh
      show _
      generalize upd G t3 (.tup [.ref b3, .int ((0 : Nat) : Int)]) = G at R hL ⊢
      have an : Any K G (.non) .non := .non
      have wh : WhyA K G (.non) .non 0 := .inl ⟨rfl, rfl⟩
      refine ⟨two, fun t4 m4 => ?_⟩
      have R := R.same (Same.new (u := .tup [.non, .int ((0 : Nat) : Int)]) m4)
      have hL := tries_one hL m4 an wh
      clear an wh
      show _
      generalize upd G t4 (.tup [.non, .int ((0 : Nat) : Int)]) = G at R hL ⊢
      have an : Any K G (.int 5) .int := .int 5
      have wh : WhyA K G (.int 5) .int 0 := .inl ⟨rfl, rfl⟩
      refine ⟨two, fun t5 m5 => ?_⟩
      have R := R.same (Same.new (u := .tup [.int 5, .int ((0 : Nat) : Int)]) m5)
      have hL := tries_one hL m5 an wh
      clear an wh
      show _
      generalize upd G t5 (.tup [.int 5, .int ((0 : Nat) : Int)]) = G at R hL ⊢
      have an : Any K G (.str "ab") .str := .str (by decide)
      have wh : WhyA K G (.str "ab") .str 0 := .inl ⟨rfl, rfl⟩
      refine ⟨two, fun t6 m6 => ?_⟩
      have R := R.same (Same.new (u := .tup [.str "ab", .int ((0 : Nat) : Int)]) m6)
      have hL := tries_one hL m6 an wh
      clear an wh
      show _
      generalize upd G t6 (.tup [.str "ab", .int ((0 : Nat) : Int)]) = G at R hL ⊢
      refine fun b7 n7 => ?_
      have R := R.same (Same.new (u := .dK []) n7)
      have hL := tries_new (u := .dK []) hL n7
      have an : Any K (upd G b7 (.dK [])) (.ref b7) .dct := .dct upd_same
      have wh : WhyA K (upd G b7 (.dK [])) (.ref b7) .dct 0 := .inl ⟨rfl, rfl⟩
      generalize upd G b7 (.dK []) = G at R hL an wh
      refine ⟨two, fun t7 m7 => ?_⟩
      have R := R.same (Same.new (u := .tup [.ref b7, .int ((0 : Nat) : Int)]) m7)
      have hL := tries_one hL m7 an wh
      clear an wh
      show _
      generalize upd G t7 (.tup [.ref b7, .int ((0 : Nat) : Int)]) = G at R hL ⊢
      have an : Any K G (.bl true) .bl := .bl true
      have wh : WhyA K G (.bl true) .bl 0 := .inl ⟨rfl, rfl⟩
      refine ⟨two, fun t8 m8 => ?_⟩
      have R := R.same (Same.new (u := .tup [.bl true, .int ((0 : Nat) : Int)]) m8)
      have hL := tries_one hL m8 an wh
      clear an wh
      show _
      generalize upd G t8 (.tup [.bl true, .int ((0 : Nat) : Int)]) = G at R hL ⊢
      have an : Any K G (.ref fT) .fn := .fn lT cT
      have wh : WhyA K G (.ref fT) .fn 0 := .inl ⟨rfl, rfl⟩
      refine ⟨two, fun t9 m9 => ?_⟩
      have R := R.same (Same.new (u := .tup [.ref fT, .int ((0 : Nat) : Int)]) m9)
      have hL := tries_one hL m9 an wh
      clear an wh
      show _
      generalize upd G t9 (.tup [.ref fT, .int ((0 : Nat) : Int)]) = G at R hL ⊢
      have hL : ∀ x ∈ [V.ref t1, V.ref t2, V.ref t3, V.ref t4, V.ref t5, V.ref t6, V.ref t7, V.ref t8, V.ref t9], TryOk K G x := hL
      refine ⟨by show 9 ≤ sizeLine; decide, fun tr ntr => ?_⟩
      have htr : (upd G tr (.lst [V.ref t1, V.ref t2, V.ref t3, V.ref t4, V.ref t5, V.ref t6, V.ref t7, V.ref t8, V.ref t9])) tr = some (.lst [V.ref t1, V.ref t2, V.ref t3, V.ref t4, V.ref t5, V.ref t6, V.ref t7, V.ref t8, V.ref t9]) := upd_same
      have R := R.same (Same.new (u := .lst [V.ref t1, V.ref t2, V.ref t3, V.ref t4, V.ref t5, V.ref t6, V.ref t7, V.ref t8, V.ref t9]) ntr)
      have hL := tries_new (u := .lst [V.ref t1, V.ref t2, V.ref t3, V.ref t4, V.ref t5, V.ref t6, V.ref t7, V.ref t8, V.ref t9]) hL ntr
      show tSeq _ _ _ _ (upd G tr (.lst [V.ref t1, V.ref t2, V.ref t3, V.ref t4, V.ref t5, V.ref t6, V.ref t7, V.ref t8, V.ref t9]))
      generalize upd G tr (.lst [V.ref t1, V.ref t2, V.ref t3, V.ref t4, V.ref t5, V.ref t6, V.ref t7, V.ref t8, V.ref t9]) = G at R hL htr ⊢
      generalize [V.ref t1, V.ref t2, V.ref t3, V.ref t4, V.ref t5, V.ref t6, V.ref t7, V.ref t8, V.ref t9] = L9 at hL htr
      refine ⟨_, rfl, tr, rfl, ⟨_, SqL.of htr⟩, ?_⟩
      refine for_list (xs := L9) (fun _ σ G => ∃ s5 s7 : Option V, σ = [some (.ref p), some (.ref n), some (.int m), some (.ref od), s4, s5, s6, s7, some (.ref tr), none, none, none] ∧ RS K TT p n od (s0 :: sr) ys H G ∧ G tr = some (.lst L9) ∧ ∀ x ∈ L9, TryOk K G x) ⟨_, _, rfl, R, htr, hL⟩ (fun i σ G hi q => by
        obtain ⟨_, _, _, _, h, _⟩ := q
        exact SqL.of h) ?_ ?_
      · rintro i x σ G hx ⟨s5, s7, rfl, R, htr, hL⟩
        obtain ⟨Tx, v, k, d, rfl, gT, av, wv⟩ := hL x (List.mem_of_getElem? hx)
        refine ⟨Tx, _, rfl, SqT.of gT, rfl, v, _, rfl, _, _, rfl, rfl, ?_⟩
        refine asked_addr (i := 5) (j := 7) rfl rfl R.tabs av (fun _ => .non) wv fun G6 e6 t6 => iteF ?_
        exact ⟨_, _, rfl, R.ext e6 t6, e6 _ _ htr (by intro ps z; cases z), tries_ext hL e6⟩
      · rintro σ G ⟨s5, s7, rfl, R, _, _⟩
        have one : 1 ≤ sizeLine := by decide
        refine ⟨1, rfl, one, fun d1 k1 => ?_⟩
        have R := R.same (Same.new (u := .lst [.int 1]) k1)
        have M1 : MostOk K C (upd G d1 (.lst [.int 1])) (.ref d1) := MostOk.one (tp := false) upd_same
        generalize upd G d1 (.lst [.int 1]) = G at R M1
        refine ⟨one, fun d2 k2 => ?_⟩
        have R := R.same (Same.new (u := .tup [.int 1]) k2)
        have M1 := M1.new (u := .tup [.int 1]) k2
        have M2 : MostOk K C (upd G d2 (.tup [.int 1])) (.ref d2) := MostOk.one (tp := true) upd_same
        generalize upd G d2 (.tup [.int 1]) = G at R M1 M2
        refine fun d3 k3 => ?_
        have R := R.same (Same.new (u := .dK []) k3)
        have M1 := M1.new (u := .dK []) k3
        have M2 := M2.new (u := .dK []) k3
        have M3 : MostOk K C (upd G d3 (.dK [])) (.ref d3) := MostOk.dct upd_same
        generalize upd G d3 (.dK []) = G at R M1 M2 M3
        refine ⟨_, rfl, _, rfl, fun x dx nx ndx ne => mkLand (tp := false) g hm upd_same (by rw [upd_ne (ne_of_none R.nm nx), upd_ne (ne_of_none R.nm ndx)]; exact R.nm) fun G2 B2 L2 => ⟨rfl, ?_⟩⟩
        have e2 : Same G G2 := made_same nx ndx B2
        have R := R.same e2
        have M1 := M1.ext (ExtN.of e2)
        have M2 := M2.ext (ExtN.of e2)
        have M3 := M3.ext (ExtN.of e2)
        have M4 : MostOk K C G2 (.ref x) := MostOk.land L2 g.lay L.F.E.own
        refine ⟨by show 9 ≤ sizeLine; decide, fun dl kl => ?_⟩
        have hM : ∀ y ∈ [V.int 0, V.int (-1), V.non, V.bl true, V.str "1", V.ref d1, V.ref d2, V.ref d3, V.ref x], MostOk K C G2 y := all_cons (.int rfl) (all_cons (.int rfl) (all_cons .non (all_cons (.bl true) (all_cons (.str (by decide)) (all_cons M1 (all_cons M2 (all_cons M3 (all_cons M4 all_nil))))))))
        have R := R.same (Same.new (u := .lst [V.int 0, V.int (-1), V.non, V.bl true, V.str "1", V.ref d1, V.ref d2, V.ref d3, V.ref x]) kl)
        have hl : (upd G2 dl (.lst [V.int 0, V.int (-1), V.non, V.bl true, V.str "1", V.ref d1, V.ref d2, V.ref d3, V.ref x])) dl = some (.lst [V.int 0, V.int (-1), V.non, V.bl true, V.str "1", V.ref d1, V.ref d2, V.ref d3, V.ref x]) := upd_same
        have hM : ∀ y ∈ [V.int 0, V.int (-1), V.non, V.bl true, V.str "1", V.ref d1, V.ref d2, V.ref d3, V.ref x], MostOk K C (upd G2 dl (.lst [V.int 0, V.int (-1), V.non, V.bl true, V.str "1", V.ref d1, V.ref d2, V.ref d3, V.ref x])) y := fun y my => (hM y my).new kl
        refine ⟨dl, rfl, ⟨_, SqL.of hl⟩, ?_⟩
        generalize upd G2 dl (.lst [V.int 0, V.int (-1), V.non, V.bl true, V.str "1", V.ref d1, V.ref d2, V.ref d3, V.ref x]) = G at R hl hM
        generalize [V.int 0, V.int (-1), V.non, V.bl true, V.str "1", V.ref d1, V.ref d2, V.ref d3, V.ref x] = M9 at hl hM
        refine for_list (xs := M9) (fun _ σ G => ∃ s9 : Option V, σ = [some (.ref p), some (.ref n), some (.int m), some (.ref od), s4, s5, s6, s7, some (.ref tr), s9, none, none] ∧ RS K TT p n od (s0 :: sr) ys H G ∧ G dl = some (.lst M9) ∧ ∀ y ∈ M9, MostOk K C G y) ⟨_, rfl, R, hl, hM⟩ (fun i σ G hi q => by
          obtain ⟨_, _, _, h, _⟩ := q
          exact SqL.of h) ?_ ?_
        · rintro i y σ G hy ⟨s9, rfl, R, hl, hM⟩
          obtain ⟨k, ay, no, sm⟩ := hM y (List.mem_of_getElem? hy)
          refine asked_most (i := 1) (j := 9) rfl rfl R.tabs R.nm g ay no sm fun G6 e6 t6 => iteF ?_
          exact ⟨_, rfl, R.ext e6 t6, e6 _ _ hl (by intro ps z; cases z), fun y my => (hM y my).ext e6⟩
        · rintro σ G ⟨s9, rfl, R, _, _⟩
          refine ⟨one, fun hd nhd => ?_⟩
          have own : ∀ b o, b ≠ p → (∀ ps, o ≠ .tbl ps) → H b = some o → b ≠ hd := fun b o nb mt e => ne_of_none (R.but b o nb mt e) nhd
          have lp : hd ≠ p := R.src.ne nhd
          have lo : hd ≠ od := (ne_of_none R.odv nhd).symm
          have ln : hd ≠ n := (ne_of_none R.nm nhd).symm
          have R := R.same (Same.new (u := .lst [.int 1]) nhd)
          have ghd : (upd G hd (.lst [.int 1])) hd = some (.lst [.int 1]) := upd_same
          generalize upd G hd (.lst [.int 1]) = G at R ghd
          refine ⟨R.tabs, fun G1 e1 t1 => ⟨_, rfl, _, rfl, fun x dx nx ndx ne => ?_⟩⟩
          have R1 := R.ext e1 t1
          have hd1 := e1 _ _ ghd (by intro ps z; cases z)
          refine met_most nx ndx ne R1.nm g (.lst hd1) rfl fun G2 T s2 nT gT => ?_
          have R2 := R1.same s2
          have hd2 := s2 _ _ hd1
          refine ⟨_, rfl, .inl ⟨rfl, _, SqL.of hd2⟩, hd, _, _, rfl, rfl, hd2, by show 1 < sizeLine; decide, ?_⟩
          have R3 := R2.putL (zs := [V.int 1] ++ [V.str "late"]) hd2 lp lo ln own
          have gT3 : (upd G2 hd (.lst ([V.int 1] ++ [V.str "late"]))) T = some (.tup [.str "most", .ref hd]) := by
            rw [upd_ne (ne_of gT hd2 (by intro z; cases z))]
            exact gT
          have hd3 : (upd G2 hd (.lst ([V.int 1] ++ [V.str "late"]))) hd = some (.lst [.int 1, .str "late"]) := upd_same
          generalize upd G2 hd (.lst ([V.int 1] ++ [V.str "late"])) = G3 at R3 gT3 hd3 ⊢
          refine ⟨_, rfl, two, fun l4 n4 => ⟨two, fun T5 n5 => ?_⟩⟩
          have s5 := (Same.new (u := .lst [.int 1, .str "late"]) n4).trans (Same.new (u := .tup [.str "most", .ref l4]) n5)
          have g4 : (upd (upd G3 l4 (.lst [.int 1, .str "late"])) T5 (.tup [.str "most", .ref l4])) l4 = some (mkX false [.int 1, .str "late"]) := Same.new n5 _ _ upd_same
          refine ⟨.ref T, .ref T5, rfl, SameW.seq (tp := true) (s5 _ _ gT3) upd_same (by simp) (.cons (SameW.str (by decide)) (.cons (SameW.seq (tp := false) (s5 _ _ hd3) g4 (by simp) (.cons (SameW.int 1) (.cons (SameW.str (by decide)) .nil))) .nil)), fun H' s6 => ?_⟩
          have R6 := R3.same (s5.trans s6)
          exact q _ R6.but R6.src R6.tabs
end
end OB
namespace OB
open PySem PySem.Spec PyProof.Rows L2 LamX
/-! ### scenes -/
abbrev sSceneInit : Stmt := inClass (top 39) 0
abbrev sEmpty : Stmt := top 40
structure SceneC (K : PySem.W.Frag) (C : Addr) : Prop where
  cl : Cls K C
  nL : NoAttr K C "lying"
  nB : NoAttr K C "born"
  nD : NoAttr K C "days"
def spSceneInit (C : Addr) : Sp := fun vs H Q _ => ∃ (o dx : Addr) (a b c : V), vs = [.ref o, a, b, c] ∧ H o = some (.ins C dx []) ∧ ∀ H', ButS o H H' → Q .non H'
def spEmpty (K : PySem.W.Frag) : Sp := fun vs H Q _ => ∃ (a : Addr) (ss : List Str), vs = [.ref a] ∧ SqL K H a (ss.map V.str) ∧ ss.length < 1000 ∧ ∀ H' o, Same H H' → H o = none → Q (.ref o) H'
theorem dc_list {K : PySem.W.Frag} {a : Addr} {xs : List V} {g : TG} {tt : TT} {tk tv : TE} {vs : List Nat} {σ : L2.St} {H1 : Hp} {D : Addr} {Qd : Hp → Prop} (Pv : Nat → Hp → Prop) (h0 : Pv 0 (upd H1 D (.dK []))) (hq : ∀ i H, Pv i H → SqL K H a xs)
    (hs : ∀ i x H, xs[i]? = some x → Pv i H → g x (wipe σ vs) H fun σ2 H2 => wipe σ2 vs = wipe σ vs ∧ tt σ2 H2 fun b H3 => if b = true then tk σ2 H3 fun y H4 => tv σ2 H4 fun z H5 => ∃ kvs k, y = kV k ∧ H5 D = some (.dK kvs) ∧ kvs.length < sizeLine ∧ Pv (i + 1) (upd H5 D (.dK (putK kvs k z))) else Pv (i + 1) H3) (hd : ∀ H, Pv xs.length H → Qd H) :
    ∃ W : Nat → Nat → Hp → Prop, (∃ m, W 0 m (upd H1 D (.dK []))) ∧ ∀ i m H, W i m H →
      ((Itl K a).stop i H ∧ Qd H) ∨ ((Itl K a).go i H ∧ ∃ Nx : Hp → Prop, (∀ H', Nx H' → ∃ m', m' < m ∧ W (i + 1) m' H') ∧ ∀ x H', (Itl K a).yld i H x H' → g x (wipe σ vs) H' fun σ2 H2 => wipe σ2 vs = wipe σ vs ∧ tt σ2 H2 fun b H3 => if b = true then tk σ2 H3 fun y H4 => tv σ2 H4 fun z H5 => ∃ kvs k, y = kV k ∧ H5 D = some (.dK kvs) ∧ kvs.length < sizeLine ∧ Nx (upd H5 D (.dK (putK kvs k z))) else Nx H3) := by
  refine ⟨fun i m H => m = xs.length - i ∧ i ≤ xs.length ∧ Pv i H, ⟨xs.length, rfl, Nat.zero_le _, h0⟩, ?_⟩
  rintro i m H ⟨rfl, hi, pv⟩
  have sq := hq i H pv
  rcases Nat.lt_or_eq_of_le hi with hlt | rfl
  · refine .inr ⟨⟨xs, xs[i], sq, List.getElem?_eq_getElem hlt⟩, Pv (i + 1), fun H' z => ⟨xs.length - (i + 1), by omega, rfl, hlt, z⟩, fun x H' y => ?_⟩
    obtain ⟨rfl, yx⟩ := y
    exact hs i x _ (yx xs sq) pv
  · exact .inl ⟨⟨xs, sq, Nat.le_refl _⟩, hd H pv⟩
section
variable {P : Program} {w : World} {K : PySem.W.Frag} {mg : Str → Option Value} {base : Heap}
theorem scSceneInit : FnScope ["self", "lying", "born", "days"] ["self", "lying", "born", "days"] (defScope sSceneInit) := ⟨rfl, rfl, rfl, by decide +kernel, rfl, by decide +kernel, by decide +kernel⟩
theorem ok_sceneInit {f C : Addr} {fd : FuncData} (F : Fun K "__init__" "Scene.__init__" sSceneInit f fd) (SC : SceneC K C) : FnOk P w K mg base CX0 1 f fd ["self", "lying", "born", "days"] (spSceneInit C) := by
  refine F.ok scSceneInit (fun vs H Q E h => ?_) (fun cdv A outer s H vs Q E hr h => ?_)
  · obtain ⟨o, dx, a, b, c, rfl, _⟩ := h
    rfl
  · obtain ⟨o, dx, a, b, c, rfl, ho, q⟩ := h
    have nd := scSceneInit.nd
    refine ⟨_, pss_cons (ps_fld (pv 0) (pv 1) rfl) (pss_cons (ps_fld (pv 0) (pv 2) rfl) (pss_one (ps_fld (pv 0) (pv 3) rfl))), ?_⟩
    refine ⟨_, rfl, _, rfl, o, C, dx, _, rfl, ho, SC.cl, SC.nL, by decide, ?_⟩
    have B1 : ButS o H (upd H o (.ins C dx [("lying", a)])) := ButS.put
    have o1 : (upd H o (.ins C dx [("lying", a)])) o = some (.ins C dx [("lying", a)]) := upd_same
    show tSeq _ _ _ _ (upd H o (.ins C dx [("lying", a)]))
    generalize upd H o (.ins C dx [("lying", a)]) = H1 at B1 o1 ⊢
    refine ⟨_, rfl, _, rfl, o, C, dx, _, rfl, o1, SC.cl, SC.nB, by show 1 < 1000; decide, ?_⟩
    refine ⟨_, rfl, _, rfl, o, C, dx, _, rfl, upd_same, SC.cl, SC.nD, by show 2 < 1000; decide, ?_⟩
    exact q _ ((B1.trans ButS.put).trans ButS.put)
theorem scEmpty : FnScope ["names", "name"] ["names"] (defScope sEmpty) := ⟨rfl, rfl, rfl, by decide +kernel, rfl, by decide +kernel, by decide +kernel⟩
theorem ok_empty {f fI C : Addr} {fd fdI : FuncData} (F : Fun K "empty_scene" "empty_scene" sEmpty f fd) (M : Mk K C fI) (GI : FnOk P w K mg base CX0 1 fI fdI ["self", "lying", "born", "days"] (spSceneInit C)) (gC : mg "Scene" = some (.ref C)) (bI : Binds K fdI ["self", "lying", "born", "days"] []) :
    FnOk P w K mg base CX0 3 f fd ["names"] (spEmpty K) := by
  refine F.ok scEmpty (fun vs H Q E h => ?_) (fun cdv A outer s H vs Q E hr h => ?_)
  · obtain ⟨a, ss, rfl, _⟩ := h
    rfl
  · obtain ⟨a, ss, rfl, ha, hl, q⟩ := h
    have nd := scEmpty.nd
    refine ⟨_, pss_one (ps_ret (pe_make (E := E0) M GI hr (by rfl) gC bI .nil pass0 (pa_cons (pe_dc (own := [("name", 1)]) (g := gName 1) (tt := tYes) rfl nd (pi_list (pv 0)) (blkOk_by (N := ["names", "name"]) (sc := defScope sEmpty) (by decide +kernel))
      (fun _ _ _ _ _ => pg_name (i := 1) nd rfl (Or.inl rfl)) (fun _ _ _ _ _ => pts_nil) (fun _ _ _ _ _ => pv 1) (fun _ _ _ _ _ => pe_tup pa_nil)) (pa_cons pe_int (pa_cons pe_int pa_nil))))), ?_⟩
    refine ⟨_, rfl, a, rfl, ⟨_, ha⟩, fun D nD => ?_⟩
    have nF : ∀ b o, H b = some o → b ≠ D := fun b o e => ne_of_none e nD
    refine dc_list (xs := ss.map V.str) (fun i G => (∀ b o, b ≠ D → H b = some o → G b = some o) ∧ ∃ kvs, G D = some (.dK kvs) ∧ kvs.length ≤ i) ⟨fun b o nb e => by rw [upd_ne nb]; exact e, [], upd_same, Nat.le_refl _⟩ (fun i G z => ?_) (fun i y G hy ⟨m1, kvs, m2, m3⟩ => ?_) (fun G ⟨m1, kvs, m2, m3⟩ => ?_)
    · exact Same.seq (fun b o e => z.1 b o (nF b o e) e) ha
    · obtain ⟨s', ms, rfl⟩ := List.mem_map.mp (List.mem_of_getElem? hy)
      have hi : i < ss.length := by
        have := (List.getElem?_eq_some_iff.mp hy).1
        rw [List.length_map] at this
        exact this
      refine ⟨rfl, _, rfl, Nat.zero_le _, fun T nT => ⟨kvs, .inr s', rfl, ?_, by rw [sizeLine_eq]; omega, ?_, ?_⟩⟩
      · rw [upd_ne (ne_of_none m2 nT)]
        exact m2
      · intro b o nb e
        rw [upd_ne nb, upd_ne (ne_of_none (m1 b o nb e) nT)]
        exact m1 b o nb e
      · exact ⟨_, upd_same, Nat.le_trans (length_putK ..) (by omega)⟩
    · have eG : Same H G := fun b o e => m1 b o (nF b o e) e
      refine fun x dx nx ndx ne => ⟨x, dx, _, _, _, rfl, upd_same, fun H' B => ⟨rfl, q H' x (eG.trans (made_same nx ndx B)) (eG.free nx)⟩⟩
end
end OB
namespace OB
open PySem PySem.Spec PyProof.Rows L2 LamX
/-! ### a history of no deeds -/
abbrev sHistInit : Stmt := inClass (top 44) 0
structure HistC (K : PySem.W.Frag) (C : Addr) : Prop where
  cl : Cls K C
  nL : NoAttr K C "_land"
  nT : NoAttr K C "_told"
  nS : NoAttr K C "_scenes"
abbrev sCheckLand : Stmt := top 36
def spCheckLand (CL : Addr) : Sp := fun vs H Q _ => ∃ (l : Addr) (ns : List V) (m : Int), vs = [.ref l] ∧ LandAt H CL l ns m ∧ Q .non H
def spHistInit (K : PySem.W.Frag) (CL CH : Addr) : Sp := fun vs H Q _ => ∃ (o dx l a : Addr) (ss : List Str) (m : Int), vs = [.ref o, .ref l, .ref a] ∧ H o = some (.ins CH dx []) ∧ LandAt H CL l (ss.map V.str) m ∧ ss.length < 1000 ∧ H a = some (.lst []) ∧ ∀ H' fs, ButS o H H' → H' o = some (.ins CH dx fs) → Q .non H'
/-- rows that are never come to -/
theorem pss_dead {X : Cx} {st : List Stmt} : PSs X st (fun _ _ _ => False) := ⟨fun _ _ _ _ _ _ h => h.elim⟩
theorem pg_dead {X : Cx} {tg : Expr} : PG X tg (fun _ _ _ _ => False) := ⟨fun _ _ _ _ _ _ _ _ _ h => h.elim⟩
section
variable {P : Program} {w : World} {K : PySem.W.Frag} {mg : Str → Option Value} {base : Heap}
theorem scCheckLand : FnScope ["thing"] ["thing"] (defScope sCheckLand) := ⟨rfl, rfl, rfl, by decide +kernel, rfl, by decide +kernel, by decide +kernel⟩
theorem ok_checkLand {f CL CA CM fI fE fA fM : Addr} {fd fdI fdE fdA fdM : FuncData} (F : Fun K "check_land" "check_land" sCheckLand f fd) (T : TxtC mg) (L : LandT P w K mg base CL CA CM fI fE fA fM fdI fdE fdA fdM) : FnOk P w K mg base CX0 1 f fd ["thing"] (spCheckLand CL) := by
  refine F.ok scCheckLand (fun vs H Q E h => ?_) (fun cdv A outer s H vs Q E hr h => ?_)
  · obtain ⟨l, ns, m, rfl, _⟩ := h
    rfl
  · obtain ⟨l, ns, m, rfl, hl, q⟩ := h
    refine ⟨_, pss_one (ps_if (pt_not (pt_val (pe_callB call_isA (by rfl) T.isi bootIsi (pa_cons (pv 0) (pa_cons (pe_glob (v := .ref CL) (by rfl) L.gC rfl) pa_nil))))) pss_dead pss_nil), ?_⟩
    obtain ⟨dl, Tl, h1, h2⟩ := id hl
    refine ⟨_, rfl, .ref l, .ref CL, .ref CL, .ref CL, true, rfl, .own CL, tyA_ins h1 L.F.E.own, L.F.E.kit, true, rfl, iteF ?_⟩
    exact q
theorem scHistInit : FnScope ["self", "land", "deeds", "told", "scenes", "index", "thing", "deed"] ["self", "land", "deeds"] (defScope sHistInit) := ⟨rfl, rfl, rfl, by decide +kernel, rfl, by decide +kernel, by decide +kernel⟩
theorem ok_histInit {f fS fL CL CH CA CM fI fE fA fM : Addr} {fd fdS fdL fdI fdE fdA fdM : FuncData} (F : Fun K "__init__" "History.__init__" sHistInit f fd) (T : TxtC mg) (en : mg "enumerate" = none) (HC : HistC K CH) (L : LandT P w K mg base CL CA CM fI fE fA fM fdI fdE fdA fdM)
    {fC : Addr} {fdC : FuncData} (GC : FnOk P w K mg base CX0 1 fC fdC ["thing"] (spCheckLand CL)) (gC : mg "check_land" = some (.ref fC)) (kC : PySem.W.keepIn K (.ref fC) = true) (bC : Binds K fdC ["thing"] [])
    (GL : FnOk P w K mg base CX0 1 fL fdL ["thing"] (spAsk K fSeq)) (gL : mg "is_list" = some (.ref fL)) (kL : PySem.W.keepIn K (.ref fL) = true) (bL : Binds K fdL ["thing"] [])
    (GS : FnOk P w K mg base CX0 3 fS fdS ["names"] (spEmpty K)) (gS : mg "empty_scene" = some (.ref fS)) (kS : PySem.W.keepIn K (.ref fS) = true) (bS : Binds K fdS ["names"] []) : FnOk P w K mg base CX0 4 f fd ["self", "land", "deeds"] (spHistInit K CL CH) := by
  refine F.ok scHistInit (fun vs H Q E h => ?_) (fun cdv A outer s H vs Q E hr h => ?_)
  · obtain ⟨o, dx, l, a, ss, m, rfl, _⟩ := h
    rfl
  · obtain ⟨o, dx, l, a, ss, m, rfl, ho, hl, few, ha, q⟩ := h
    have nd := scHistInit.nd
    have hr1 := hr.mono (show 1 ≤ 3 by decide)
    refine ⟨_, pss_cons (ps_expr (pe_call GC hr1 (by rfl) gC kC bC .nil pass0 (pa_cons (pv 1) pa_nil)))
      (pss_cons (ps_if (pt_not (pt_val (pe_call GL hr1 (by rfl) gL kL bL .nil pass0 (pa_cons (pv 2) pa_nil)))) pss_dead pss_nil)
      (pss_cons (ps_set (i := 3) nd rfl (Or.inl rfl) (pe_lst pa_nil))
      (pss_cons (ps_set (i := 4) nd rfl (Or.inl rfl) (pe_lst (pa_cons (pe_call GS hr (by rfl) gS kS bS .nil pass0 (pa_cons (pe_meth0 (pv 1) L.LC.cl L.mA L.GA hr1 L.bA .nil pass0) pa_nil)) pa_nil)))
      (pss_cons (ps_for PassesOwn.never rfl (pi_enT (by rfl) en (pa_cons (pv 2) pa_nil)) pg_dead pss_dead)
      (pss_cons (ps_fld (pv 0) (pv 1) rfl)
      (pss_cons (ps_fld (pv 0) (pe_callTy call_tuple_of (by rfl) T.tuple (by decide +kernel) (pa_cons (pv 3) pa_nil)) rfl)
      (pss_one (ps_fld (pv 0) (pe_callTy call_tuple_of (by rfl) T.tuple (by decide +kernel) (pa_cons (pv 4) pa_nil)) rfl)))))))), ?_⟩
    obtain ⟨dl, Tl, h1, h2⟩ := id hl
    refine ⟨_, rfl, l, _, m, rfl, hl, ?_⟩
    refine ⟨_, rfl, .ref a, .lst, rfl, .lst ha, fun H1 e1 => ⟨true, rfl, iteF ?_⟩⟩
    have ho1 := e1 _ _ ho
    refine ⟨Nat.zero_le _, fun td ntd => ?_⟩
    have e2 : Same H (upd H1 td (.lst [])) := e1.trans (Same.new ntd)
    have gtd : (upd H1 td (.lst [])) td = some (.lst []) := upd_same
    have otd : td ≠ o := (ne_of_none ho1 ntd).symm
    show tSeq _ _ _ _ (upd H1 td (.lst []))
    generalize upd H1 td (.lst []) = H2 at e2 gtd ⊢
    refine ⟨_, rfl, l, dl, _, rfl, e2 _ _ h1, by rfl, l, ss.map V.str, m, rfl, hl.same e2, fun H3 ad e3 nad gad => ⟨ad, ss, rfl, SqL.of gad, few, fun H4 sc e4 nsc => ⟨by show 1 ≤ sizeLine; decide, fun sn nsn => ?_⟩⟩⟩
    have e5 : Same H2 (upd H4 sn (.lst [.ref sc])) := (e3.trans e4).trans (Same.new nsn)
    have e05 := e2.trans e5
    have gtd5 := e5 _ _ gtd
    have gsn : (upd H4 sn (.lst [.ref sc])) sn = some (.lst [.ref sc]) := upd_same
    have osn : sn ≠ o := (ne_of_none (e4 _ _ (e3 _ _ (e2 _ _ ho))) nsn).symm
    show tSeq _ _ _ _ (upd H4 sn (.lst [.ref sc]))
    generalize upd H4 sn (.lst [.ref sc]) = H5 at e5 e05 gtd5 gsn ⊢
    have ho5 := e05 _ _ ho
    refine ⟨_, rfl, a, [], rfl, .inl ⟨SqL.of (e05 _ _ ha), ?_⟩⟩
    refine for_enL (K := K) (g := fun _ _ _ _ => False) (tb := fun _ _ _ => False) (xs := []) (fun _ σ' G => σ' = [some (.ref o), some (.ref l), some (.ref a), some (.ref td), some (.ref sn), none, none, none] ∧ G = H5) ⟨rfl, rfl⟩ (fun i σ' G z => by rw [z.2]; exact SqL.of (e05 _ _ ha)) (fun i x T σ' G hx => by simp at hx) (fun σ' G z => ?_)
    obtain ⟨rfl, rfl⟩ := z
    refine ⟨_, rfl, _, rfl, o, CH, dx, _, rfl, ho5, HC.cl, HC.nL, by decide, ?_⟩
    have B6 : ButS o H (upd G o (.ins CH dx (putF "_land" (.ref l) []))) := (ButS.same e05).trans ButS.put
    have o6 : (upd G o (.ins CH dx (putF "_land" (.ref l) []))) o = some (.ins CH dx (putF "_land" (.ref l) [])) := upd_same
    have td6 : (upd G o (.ins CH dx (putF "_land" (.ref l) []))) td = some (.lst []) := by
      rw [upd_ne otd]
      exact gtd5
    have sn6 : (upd G o (.ins CH dx (putF "_land" (.ref l) []))) sn = some (.lst [.ref sc]) := by
      rw [upd_ne osn]
      exact gsn
    show tSeq _ _ _ _ (upd G o (.ins CH dx (putF "_land" (.ref l) [])))
    generalize upd G o (.ins CH dx (putF "_land" (.ref l) [])) = H6 at B6 o6 td6 sn6 ⊢
    refine ⟨_, rfl, td, [], rfl, .inl ⟨SqL.of td6, fun t1 nt1 => ⟨_, rfl, o, CH, dx, _, rfl, Same.new nt1 _ _ o6, HC.cl, HC.nT, by show 1 < 1000; decide, ?_⟩⟩⟩
    have B7 : ButS o H (upd (upd H6 t1 (.tup [])) o (.ins CH dx (putF "_told" (.ref t1) (putF "_land" (.ref l) [])))) := (B6.trans (ButS.same (Same.new nt1))).trans ButS.put
    have o7 : (upd (upd H6 t1 (.tup [])) o (.ins CH dx (putF "_told" (.ref t1) (putF "_land" (.ref l) [])))) o = some (.ins CH dx (putF "_told" (.ref t1) (putF "_land" (.ref l) []))) := upd_same
    have sn7 : (upd (upd H6 t1 (.tup [])) o (.ins CH dx (putF "_told" (.ref t1) (putF "_land" (.ref l) [])))) sn = some (.lst [.ref sc]) := by
      rw [upd_ne osn]
      exact Same.new nt1 _ _ sn6
    generalize upd (upd H6 t1 (.tup [])) o (.ins CH dx (putF "_told" (.ref t1) (putF "_land" (.ref l) []))) = H7 at B7 o7 sn7 ⊢
    refine ⟨_, rfl, sn, [.ref sc], rfl, .inl ⟨SqL.of sn7, fun t2 nt2 => ⟨_, rfl, o, CH, dx, _, rfl, Same.new nt2 _ _ o7, HC.cl, HC.nS, by show 2 < 1000; decide, ?_⟩⟩⟩
    exact q _ _ ((B7.trans (ButS.same (Same.new nt2))).trans ButS.put) upd_same
end
end OB
namespace OB
open PySem PySem.Spec PyProof.Rows L2 LamX
/-! ### how a bent deed is shown -/
inductive IData (H : Hp) : V → PyData → Prop where
  | non : IData H .non .none
  | bl (b : Bool) : IData H (.bl b) (.bool b)
  | int (i : Int) : IData H (.int i) (.int i)
  | str (x : Str) : IData H (.str x) (.str x)
  | lst {a : Addr} {ss : List Str} : H a = some (.lst (ss.map V.str)) → IData H (.ref a) (.list (ss.map PyData.str))
  | tup {a : Addr} : H a = some (.tup []) → IData H (.ref a) (.tuple [])
  | dct {a : Addr} : H a = some (.dK []) → IData H (.ref a) (.dict [])
def topD (tp : Bool) (ds : List PyData) : PyData := match tp with
  | true => .tuple ds
  | false => .list ds
structure SmallD (d : PyData) : Prop where
  sh : d.showable = true
  dp : d.depth ≤ 2
  sz : d.shown.length ≤ 2000
section
variable {P : Program} {w : World} {H : Hp} {h : Heap}
theorem txt_reads : ∀ (ss : List Str) (us : List Value), Vals (ss.map V.str) us → ReadsAll h us (ss.map PyData.str) []
  | [], _, r => by
    cases r
    exact .nil
  | s :: ss, _, r => by
    cases r with
    | cons r1 r2 =>
      obtain ⟨t, rfl⟩ := r1
      exact .cons (as := []) (bs := []) (.str s t) (txt_reads ss _ r2)
theorem IData.reads (ok : HOk P w H h) (ns : H sysModules = none) {v : V} {d : PyData} {u : Value} (t : IData H v d) (r : RelV v u) : ∃ as, Reads h u d as ∧ sysModules ∉ as := by
  cases t with
  | non =>
    cases r
    exact ⟨_, .none, by simp⟩
  | bl b =>
    cases r
    exact ⟨_, .bool b, by simp⟩
  | int i =>
    obtain ⟨tk, rfl⟩ := r
    exact ⟨_, .int i tk, by simp⟩
  | str x =>
    obtain ⟨tk, rfl⟩ := r
    exact ⟨_, .str x tk, by simp⟩
  | @lst a ss e =>
    cases r
    obtain ⟨_, its, n, rv, ho⟩ := (show ObjOk P w H h a (.lst (ss.map V.str)) from ok a _ e)
    have q := txt_reads (h := h) ss its rv
    refine ⟨[a], .list (vs := its.toArray) ho rfl rfl q, fun m => ?_⟩
    rw [List.mem_singleton.mp m, e] at ns
    cases ns
  | @tup a e =>
    cases r
    obtain ⟨_, its, rv, o, ho, hc, n, hd⟩ := (show ObjOk P w H h a (.tup []) from ok a _ e)
    cases rv
    exact ⟨[], .tuple (vs := #[]) ho hc hd .nil, by simp⟩
  | @dct a e =>
    cases r
    obtain ⟨_, ns', vs', rkv, o, es, ep, ho, hx, hd, hk, hp, hn⟩ := (show ObjOk P w H h a (.dK _) from ok a _ e)
    cases rkv
    generalize hl : es.toList = l' at hp
    cases hp
    refine ⟨a :: ([] ++ []), .dict ho hx.1 hd (as := []) (bs := []) ?_ ?_, fun m => ?_⟩
    · rw [hl]
      exact .nil
    · rw [hl]
      exact .nil
    · have z : sysModules = a := by simpa using m
      rw [z, e] at ns
      cases ns
theorem items_reads (ok : HOk P w H h) (ns : H sysModules = none) : ∀ {ys : List V} {ds : List PyData} {us : List Value}, Paired (IData H) ys ds → Vals ys us → ∃ as, ReadsAll h us ds as ∧ sysModules ∉ as
  | _, _, _, .nil, r => by
    cases r
    exact ⟨_, .nil, by simp⟩
  | _, _, _, .cons t ts, r => by
    cases r with
    | cons r1 r2 =>
      obtain ⟨as, q1, n1⟩ := t.reads ok ns r1
      obtain ⟨bs, q2, n2⟩ := items_reads ok ns ts r2
      exact ⟨_, .cons q1 q2, fun m => (List.mem_append.mp m).elim n1 n2⟩
end
theorem piled_small : ∀ ds : List PyData, (∀ d ∈ ds, SmallD d) → piled (PyData.shownAll ds) ≤ ds.length * 2002
  | [], _ => Nat.le_refl _
  | d :: ds, h => by
    have ih := piled_small ds fun x m => h x (List.mem_cons_of_mem _ m)
    have hd := (h d (List.mem_cons_self ..)).sz
    show piled (d.shown :: PyData.shownAll ds) ≤ (ds.length + 1) * 2002
    rw [piled_cons]
    omega
theorem shown_len : ∀ ds : List PyData, (PyData.shownAll ds).length = ds.length
  | [] => rfl
  | d :: ds => by
    show (PyData.shownAll ds).length + 1 = ds.length + 1
    rw [shown_len ds]
theorem from_len (acc : Str) (ts : List Str) : (textFrom 1 acc ts).length = acc.length + piled ts := textFrom_length_pos ts 1 acc (Nat.succ_pos 0)
theorem list_le : ∀ ts : List Str, (listText ts).length ≤ piled ts + 2
  | [] => by decide
  | t :: r => by
    have z1 : (("[" : String) : Str).length = 1 := rfl
    have z0 : (("" : String) : Str).length = 0 := rfl
    have z2 : (("]" : String) : Str).length = 1 := rfl
    show (textFrom 1 (("[" : Str) ++ (("" : String) : Str) ++ t) r ++ (("]" : String) : Str)).length ≤ _
    rw [strLen_append, from_len, strLen_append, strLen_append, piled_cons, z1, z0, z2]
    omega
theorem tuple_le (ts : List Str) : (tupleText ts).length ≤ piled ts + 4 := by
  have z1 : (("(" : String) : Str).length = 1 := rfl
  have z2 : (((if ts.length == 1 then ",)" else ")" : String) : Str)).length ≤ 2 := by split <;> decide
  show (((("(" : String) : Str) ++ Str.join ", " ts) ++ ((if ts.length == 1 then ",)" else ")" : String) : Str)).length ≤ _
  rw [strLen_append, strLen_append, z1]
  cases ts with
  | nil =>
    have z3 : (Str.join ", " []).length = 0 := rfl
    omega
  | cons t r =>
    have z3 := join_length_add (t :: r) (by simp)
    omega
theorem top_shown {tp : Bool} {ds : List PyData} (h : ∀ d ∈ ds, SmallD d) (l : ds.length ≤ 20) : (topD tp ds).showable = true ∧ (topD tp ds).depth ≤ 60 ∧ (topD tp ds).shown.length ≤ 50000 := by
  have sh : ∀ l : List PyData, (∀ d ∈ l, SmallD d) → PyData.showableAll l = true := fun l => by
    induction l with
    | nil => exact fun _ => rfl
    | cons x xs ih =>
      intro hx
      show (x.showable && PyData.showableAll xs) = true
      rw [(hx x (List.mem_cons_self ..)).sh, ih fun y m => hx y (List.mem_cons_of_mem _ m)]
      rfl
  have dp : ∀ l : List PyData, (∀ d ∈ l, SmallD d) → PyData.depthAll l ≤ 2 := fun l => by
    induction l with
    | nil => exact fun _ => Nat.zero_le _
    | cons x xs ih =>
      intro hx
      show max x.depth (PyData.depthAll xs) ≤ 2
      exact Nat.max_le.mpr ⟨(hx x (List.mem_cons_self ..)).dp, ih fun y m => hx y (List.mem_cons_of_mem _ m)⟩
  have d1 := dp ds h
  have p1 := piled_small ds h
  cases tp with
  | true =>
    refine ⟨sh ds h, ?_, ?_⟩
    · show PyData.depthAll ds + 1 ≤ 60
      omega
    · show (tupleText (PyData.shownAll ds)).length ≤ _
      have := tuple_le (PyData.shownAll ds)
      omega
  | false =>
    refine ⟨sh ds h, ?_, ?_⟩
    · show PyData.depthAll ds + 1 ≤ 60
      omega
    · show (listText (PyData.shownAll ds)).length ≤ _
      have := list_le (PyData.shownAll ds)
      omega
/-- repr of such a list or tuple, where no repr is under way -/
def rShow : List V → Hp → VK → Prop := fun xs H Q => ∃ (a : Addr) (tp : Bool) (ys : List V) (ds : List PyData), xs = [.ref a] ∧ H a = some (mkX tp ys) ∧ Paired (IData H) ys ds ∧ (∀ d ∈ ds, SmallD d) ∧ ds.length ≤ 20 ∧ Q (.str (topD tp ds).shown) H
theorem call_show {X : Cx} (hg : X.A.guards = some []) (hu : X.A.units + 64 < cLine) (hs : ∃ o, X.base.get? sysModules = some o) : CallR X (.builtin "repr") rShow := by
  intro pins s σ H xs us Q I r h
  obtain ⟨a, tp, ys, ds, rfl, ha, pd, sm, l, q⟩ := h
  obtain ⟨u, rfl, rx⟩ := vals1 r
  cases rx
  obtain ⟨o, hs⟩ := hs
  have ns : H sysModules = none := (I.bs sysModules o hs).2
  obtain ⟨t1, t2, t3⟩ := top_shown (tp := tp) sm l
  have big : 50000 ≤ sizeLine := by decide
  have fin : ∀ {as : List Addr}, Reads s.heap (.ref a) (topD tp ds) as → sysModules ∉ as → wpAny (model X.prog X.w) X.A (call (.builtin "repr") [.ref a]) (fun v s' => EP X pins σ Q v s') X.xe s := fun rd nm =>
    repr_of_reads' rd t1 (fun _ => nm) hg (by omega) (fun _ _ e => e) (fun h' u tk k => ⟨.str (topD tp ds).shown, H, I.kept (t' := tk) k, ⟨_, rfl⟩, q⟩) (Nat.le_trans t3 big)
  cases tp with
  | true =>
    obtain ⟨_, its, rv, o2, ho, hc, n, hd⟩ := (show ObjOk X.prog X.w H s.heap a (.tup ys) from I.hok a _ ha)
    obtain ⟨as, q1, n1⟩ := items_reads I.hok ns pd rv
    exact fin (.tuple (vs := its.toArray) ho hc hd q1) n1
  | false =>
    obtain ⟨_, its, n, rv, ho⟩ := (show ObjOk X.prog X.w H s.heap a (.lst ys) from I.hok a _ ha)
    obtain ⟨as, q1, n1⟩ := items_reads I.hok ns pd rv
    refine fin (.list (vs := its.toArray) ho rfl rfl q1) fun m => ?_
    rcases List.mem_cons.mp m with z | z
    · rw [z, ha] at ns
      cases ns
    · exact n1 z
end OB
namespace OB
open PySem PySem.Spec PyProof.Rows L2 LamX
/-! ### a call by keywords alone -/
theorem pe_callK0 {X : Cx} {CX : CXT} {k : Nat} {f : Addr} {fd : FuncData} {ps ks : List Str} {sp : Sp} {E : XK} {x : Str} {p pos : Pos} {kws : List Keyword} {tk : TA} {g : List Value → List Value → List Value} {gV : List V → List V → List V}
    (F : FnOk X.prog X.w X.K X.mg X.base CX k f fd ps sp) (hr : Room k X.A) (hg : Gl X x) (hm : X.mg x = some (.ref f)) (hk : PySem.W.keepIn X.K (.ref f) = true) (hb : KBn X.K fd ps 0 ks g gV) (hx : Passes CX X E) (hkw : PK X kws tk)
    (hall : (backToKw pos (keywordEach kws X.env)).all (·.1.isSome) = true := by rfl) (hks : (backToKw pos (keywordEach kws X.env)).filterMap (·.1) = ks := by rfl) (hdb : (x == ("__debug__" : Str)) = false := by decide)
    (hpl : ((backTo pos (starEach [] X.env)).any (·.1) || (backToKw pos (keywordEach kws X.env)).any (·.1.isNone)) = false := by rfl) : PE X (.Call (.Name x p) [] kws pos) (tCallN 0 ks.length sp gV E tNil tk) :=
  ⟨fun pins s σ H Q I h => wpAny_Call_Name_kw (ld_glob I hg hm (PySem.W.callWith_KW0 (h₀ := X.base) I.ok.mod.kin hk hall (thn (hkw.run pos pins s σ H _ I h) fun ws s2 ⟨zs, H2, I2, rz, l1, l2, q2⟩ => ⟨I2.kIn, by rw [hks]; exact run_fnN (us := []) F hr hb hx I2 .nil rz l1 l2 q2⟩) hpl) hdb)⟩
/-! ### what a bent deed's parts show -/
theorem texts_small : ∀ s ∈ texts, (PyData.str s).shown.length ≤ 200 := by decide +kernel
theorem small_str {s : Str} (h : s ∈ texts) : SmallD (.str s) := ⟨rfl, Nat.zero_le _, Nat.le_trans (texts_small s h) (by decide)⟩
theorem small_int {i : Int} (h : i.natAbs ≤ 10 ^ 15) : SmallD (.int i) := by
  have lg : i.natAbs.log2 < 1920 := by
    by_cases z : i.natAbs = 0
    · rw [z]
      decide
    · refine (Nat.log2_lt z).mpr (Nat.lt_of_le_of_lt h ?_)
      exact Nat.lt_of_lt_of_le (show 10 ^ 15 < 2 ^ 64 by decide) (Nat.pow_le_pow_right (by decide) (by decide))
  exact ⟨decide_eq_true lg, Nat.zero_le _, Nat.le_trans (int_text_len_1921 lg) (by decide)⟩
theorem Item.data {H : Hp} {x : V} (h : Item H x) : ∃ d, IData H x d ∧ SmallD d := by
  cases h with
  | flat f =>
    rcases f with ⟨s, rfl, m⟩ | ⟨i, rfl, l⟩
    · exact ⟨_, .str s, small_str m⟩
    · exact ⟨_, .int i, small_int l⟩
  | non => exact ⟨_, .non, rfl, Nat.zero_le _, by decide⟩
  | bl b => exact ⟨_, .bl b, rfl, Nat.zero_le _, by cases b <;> decide⟩
  | @lst a ss e hs l =>
    refine ⟨_, .lst e, ?_⟩
    match ss, hs, l with
    | [], _, _ => exact ⟨rfl, by decide, by decide⟩
    | [s], hs, _ =>
      refine ⟨rfl, (show max 0 0 + 1 ≤ 2 by decide), ?_⟩
      show (listText [(PyData.str s).shown]).length ≤ 2000
      have z1 := list_le [(PyData.str s).shown]
      have z2 := texts_small s (hs s (List.mem_cons_self ..))
      rw [piled_cons, piled_nil] at z1
      omega
    | _ :: _ :: _, _, l => exact absurd l (by simp)
  | tup e => exact ⟨_, .tup e, rfl, by decide, by decide⟩
  | dct e => exact ⟨_, .dct e, rfl, by decide, by decide⟩
theorem items_data {H : Hp} : ∀ {ys : List V}, (∀ y ∈ ys, Item H y) → ∃ ds, Paired (IData H) ys ds ∧ (∀ d ∈ ds, SmallD d) ∧ ds.length = ys.length
  | [], _ => ⟨[], .nil, (fun d m => by cases m), rfl⟩
  | y :: ys, h => by
    obtain ⟨d, h1, h2⟩ := (h y (List.mem_cons_self ..)).data
    obtain ⟨ds, h3, h4, h5⟩ := items_data (ys := ys) fun x m => h x (List.mem_cons_of_mem _ m)
    exact ⟨d :: ds, .cons h1 h3, fun x m => (List.mem_cons.mp m).elim (fun e => e ▸ h2) (h4 x), by rw [List.length_cons, h5, List.length_cons]⟩
theorem IData.same {H H' : Hp} {v : V} {d : PyData} (h : IData H v d) (e : Same H H') : IData H' v d := by
  cases h with
  | non => exact .non
  | bl b => exact .bl b
  | int i => exact .int i
  | str x => exact .str x
  | lst q => exact .lst (e _ _ q)
  | tup q => exact .tup (e _ _ q)
  | dct q => exact .dct (e _ _ q)
end OB
namespace OB
open PySem PySem.Spec PyProof.Rows L2 LamX
/-! ### the law's look at deeds -/
abbrev sDeeds : Stmt := top 63
/-- what is told of a def's body, at one around -/
def BodyAt (X : Cx) (k : Nat) (f : Addr) (x : Str) (st : Stmt) (ps : List Str) (sp : List V → Hp → VK → Prop) : Prop := ∀ (cdv : Value) (s : Shared) (H : Hp) (vs : List V) (Q : VK), Room k (X.A.deeper (envOfC x (defScope st) s.heap.objs.size f cdv)) → sp vs H Q →
  vs.length = ps.length ∧ ∃ N, FnScope N ps (defScope st) ∧ ∃ t, PSs (cxOf CX0 X.prog X.w X.K X.mg X.base N x (defScope st) f cdv X.A X.stack s H (fun _ _ _ => False)) (defBody st) t ∧ t { nx := fun _ H' => Q .non H', rt := Q } (L2.start N vs) H
/-- an odd thing that is no deed -/
def NoDeed (K : PySem.W.Frag) (ss : List Str) (G : Hp) (x : V) : Prop := ∃ k, Any K G x k ∧ (fSeq x k = true → ∃ (p : Addr) (tp : Bool) (xs : List V), x = .ref p ∧ G p = some (mkX tp xs) ∧ AllAny K G xs ∧ xs.length < 1000 ∧ deedB ss xs = false)
theorem NoDeed.same {K : PySem.W.Frag} {ss : List Str} {G G' : Hp} {x : V} (h : NoDeed K ss G x) (e : Same G G') : NoDeed K ss G' x := by
  obtain ⟨k, a, h⟩ := h
  refine ⟨k, a.same e, fun z => ?_⟩
  obtain ⟨p, tp, xs, e1, e2, e3, e4⟩ := h z
  exact ⟨p, tp, xs, e1, e _ _ e2, e3.same e, e4⟩
theorem NoDeed.no {K : PySem.W.Frag} {ss : List Str} {G : Hp} {x : V} {k : Kd} (a : Any K G x k) (h : fSeq x k = false) : NoDeed K ss G x := ⟨k, a, fun z => by rw [h] at z; cases z⟩
theorem NoDeed.seq {K : PySem.W.Frag} {ss : List Str} {G : Hp} {p : Addr} {tp : Bool} {xs : List V} (h : G p = some (mkX tp xs)) (a : AllAny K G xs) (l : xs.length < 1000) (d : deedB ss xs = false) : NoDeed K ss G (.ref p) := by
  obtain ⟨k, ak, _⟩ := anyX (K := K) h
  exact ⟨k, ak, fun _ => ⟨p, tp, xs, rfl, h, a, l, d⟩⟩
theorem LandAt.src {H H' : Hp} {C o p : Addr} {xs : List V} {m : Int} (h : LandAt H C o xs m) (S : Src H p) (b : ButS p H H') : LandAt H' C o xs m := by
  obtain ⟨dx, T, h1, h2⟩ := h
  exact ⟨dx, T, b _ _ (src_ne S h1 (by intro xs z; cases z)) h1, b _ _ (src_ne S h2 (by intro xs z; cases z)) h2⟩
theorem items_any {K : PySem.W.Frag} {H : Hp} {ys : List V} (h : ∀ y ∈ ys, Item H y) : AllAny K H ys := fun y my => (h y my).any
theorem pd_same {H H' : Hp} {ys : List V} {ds : List PyData} (h : Paired (IData H) ys ds) (e : Same H H') : Paired (IData H') ys ds := Paired.imp (fun _ _ q => q.same e) h
theorem noWait {ss : List Str} : deedB ss [V.str "wait"] = false := by
  have e : formOf "wait" = some "n" := by decide +kernel
  show (match formOf "wait" with
    | none => false
    | some f => decide (([] : List V).length = f.cps.size) && ((f.cps.toList.zip ([] : List V)).all fun p => partB ss (one p.1) p.2) && decide (adrs (f.cps.toList.zip ([] : List V))).Nodup) = false
  rw [e]
  rfl
theorem noEnd {ss : List Str} : deedB ss [V.str "end"] = false := by
  have e : formOf "end" = some "a" := by decide +kernel
  show (match formOf "end" with
    | none => false
    | some f => decide (([] : List V).length = f.cps.size) && ((f.cps.toList.zip ([] : List V)).all fun p => partB ss (one p.1) p.2) && decide (adrs (f.cps.toList.zip ([] : List V))).Nodup) = false
  rw [e]
  rfl
def spDeeds : List V → Hp → VK → Prop := fun vs H Q => ∃ (p n : Addr) (ss : List Str) (m : Int), vs = [.ref p, .ref n, .int m] ∧ Src H p ∧ H n = some (.lst (ss.map V.str)) ∧ n ≠ p ∧ GoodN ss ∧ (∀ s ∈ ss, s ∈ seven) ∧ 1 ≤ m ∧ ∀ H', ButS p H H' → Src H' p → Q (.bl true) H'
theorem bootRepr : bootBuiltins "repr" = some (.builtin "repr") := by decide +kernel
def gDeed (vs zs : List V) : List V := match vs, zs with
  | [], [t, l] => [l, t]
  | _, _ => []
theorem scDeeds : FnScope ["source", "names", "most", "land", "k", "deed", "thing", "kept", "odds", "odd"] ["source", "names", "most"] (defScope sDeeds) := ⟨rfl, rfl, rfl, by decide +kernel, rfl, by decide +kernel, by decide +kernel⟩
theorem deeds_at {X : Cx} {f fS fD fP fB fN fL fG fH fI fE fA fM CL CH CA CM : Addr} {fdS fdD fdP fdB fdN fdL fdG fdH fdI fdE fdA fdM : FuncData} {oB : Obj} (hg : X.A.guards = some []) (hsys : ∃ o, X.base.get? sysModules = some o) (hm : X.mg "repr" = none) (T : TxtC X.mg) (TD : TxtD X.mg) (TF : TxtF X.mg)
    (L : LandT X.prog X.w X.K X.mg X.base CL CA CM fI fE fA fM fdI fdE fdA fdM) (hOC : OwnC X.K CH)
    (GS : FnOk X.prog X.w X.K X.mg X.base CX0 4 fS fdS ["found", "wanted"] (spSame (SameV X.K CL 3))) (gS : X.mg "_law_same" = some (.ref fS)) (kS : PySem.W.keepIn X.K (.ref fS) = true) (bS : Binds X.K fdS ["found", "wanted"] [])
    (GD : FnOk X.prog X.w X.K X.mg X.base CX0 1 fD fdD ["source", "many"] spDraw) (gD : X.mg "_law_draw" = some (.ref fD)) (kD : PySem.W.keepIn X.K (.ref fD) = true) (bD : Binds X.K fdD ["source", "many"] [])
    (GP : FnOk X.prog X.w X.K X.mg X.base CX0 3 fP fdP ["source", "names"] (spSAny X.K)) (gP : X.mg "_law_s_any" = some (.ref fP)) (kP : PySem.W.keepIn X.K (.ref fP) = true) (bP : Binds X.K fdP ["source", "names"] [])
    (GB : FnOk X.prog X.w X.K X.mg X.base CX0 4 fB fdB ["source", "names", "deed"] (spBent X.K)) (gB : X.mg "_law_bent" = some (.ref fB)) (kB : PySem.W.keepIn X.K (.ref fB) = true) (bB : Binds X.K fdB ["source", "names", "deed"] []) (lB : X.K.lookup fB = some oB) (cB : oB.cls = .type "function")
    (GN : FnOk X.prog X.w X.K X.mg X.base CX0 5 fN fdN ["land", "thing"] (spDeed X.K CL)) (gN : X.mg "is_deed" = some (.ref fN)) (kN : PySem.W.keepIn X.K (.ref fN) = true) (bN : Binds X.K fdN ["land", "thing"] []) (kwN : ∃ g, KBn X.K fdN ["land", "thing"] 0 ["thing", "land"] g gDeed)
    (GL : FnOk X.prog X.w X.K X.mg X.base CX0 2 fL fdL ["names", "thing"] (spLDeed X.K)) (gL : X.mg "_law_is_deed" = some (.ref fL)) (kL : PySem.W.keepIn X.K (.ref fL) = true) (bL : Binds X.K fdL ["names", "thing"] [])
    (MH : Mk X.K CH fH) (GH : FnOk X.prog X.w X.K X.mg X.base CX0 4 fH fdH ["self", "land", "deeds"] (spHistInit X.K CL CH)) (gH : X.mg "History" = some (.ref CH)) (bH : Binds X.K fdH ["self", "land", "deeds"] []) : BodyAt X 5 f "_law_deeds_right" sDeeds ["source", "names", "most"] spDeeds := by
  intro cdv s H vs Q hr h
  obtain ⟨p, n, ss, m, rfl, S, hn, np, g, h7, hm1, q⟩ := h
  obtain ⟨gw, kwN⟩ := kwN
  have nd := scDeeds.nd
  have hr1 := hr.mono (show 1 ≤ 5 by decide)
  have hr2 := hr.mono (show 2 ≤ 5 by decide)
  have hr3 := hr.mono (show 3 ≤ 5 by decide)
  have hr4 := hr.mono (show 4 ≤ 5 by decide)
  have hu := hr.un
  have hg' : (cxOf CX0 X.prog X.w X.K X.mg X.base ["source", "names", "most", "land", "k", "deed", "thing", "kept", "odds", "odd"] "_law_deeds_right" (defScope sDeeds) f cdv X.A X.stack s H (fun _ _ _ => False)).A.guards = some [] := hg
  have hu' : (cxOf CX0 X.prog X.w X.K X.mg X.base ["source", "names", "most", "land", "k", "deed", "thing", "kept", "odds", "odd"] "_law_deeds_right" (defScope sDeeds) f cdv X.A X.stack s H (fun _ _ _ => False)).A.units + 64 < cLine := by
    show (X.A.deeper (envOfC "_law_deeds_right" (defScope sDeeds) s.heap.objs.size f cdv)).units + 64 < cLine
    omega
  refine ⟨rfl, _, scDeeds, ?_⟩
  refine ⟨_, (pss_cons (ps_set (i := 3) nd rfl (Or.inr rfl) (pe_make (E := noE) L.M L.GI hr (by rfl) L.gC L.bI .nil pass_no (pa_cons (pv 1) (pa_cons (pv 2) pa_nil))))
      (pss_cons (ps_for (passes_of rfl) rfl (pi_range1 (by rfl) TD.rng (pa_cons pe_int pa_nil)) (pg_name (i := 4) nd rfl (Or.inl rfl))
      (pss_cons (ps_set (i := 5) nd rfl (Or.inl rfl) (pe_call GP hr3 (by rfl) gP kP bP .nil pass0 (pa_cons (pv 0) (pa_cons (pe_callTy call_list_of (by rfl) T.list (by decide +kernel) (pa_cons (pv 1) pa_nil)) pa_nil))))
      (pss_cons (ps_set (i := 6) nd rfl (Or.inl rfl) (pe_ifExp (pt_cmpR op_gt (pe_call GD hr1 (by rfl) gD kD bD .nil pass0 (pa_cons (pv 0) (pa_cons pe_int pa_nil))) pe_int (nomark _)) (pe_call GB hr4 (by rfl) gB kB bB .nil pass0 (pa_cons (pv 0) (pa_cons (pv 1) (pa_cons (pv 5) pa_nil)))) (pv 5)))
      (pss_cons (ps_set (i := 7) nd rfl (Or.inl rfl) (pe_callB (call_show hg' hu' hsys) (by rfl) hm bootRepr (pa_cons (pv 6) pa_nil)))
      (pss_one (ps_if (PW.pt (pw_or (pt_not (pt_val (pe_call GS hr4 (by rfl) gS kS bS .nil pass0 (pa_cons (pe_callK0 GN hr (by rfl) gN kN kwN pass0 (pk_cons (pv 6) (pk_cons (pv 3) pk_nil))) (pa_cons (pe_call GL hr2 (by rfl) gL kL bL .nil pass0 (pa_cons (pv 1) (pa_cons (pv 6) pa_nil))) pa_nil))))) (pw_or1 (pt_cmpR op_ne (pe_callB (call_show hg' hu' hsys) (by rfl) hm bootRepr (pa_cons (pv 6) pa_nil)) (pv 7) (nomark _))))) (pss_one (ps_ret pe_bl)) pss_nil))))))
      (pss_cons (ps_set (i := 8) nd rfl (Or.inl rfl) (pe_lst (pa_cons pe_non (pa_cons pe_int (pa_cons pe_str (pa_cons pe_str (pa_cons (pe_lst pa_nil) (pa_cons (pe_tup pa_nil) (pa_cons pe_dnewK (pa_cons pe_bl (pa_cons (pv 3) (pa_cons (pe_make (E := E0) MH GH hr (by rfl) gH bH .nil pass0 (pa_cons (pv 3) (pa_cons (pe_lst pa_nil) pa_nil))) (pa_cons (pe_lst (pa_cons pe_non pa_nil)) (pa_cons (pe_lst (pa_cons (pe_lst pa_nil) pa_nil)) (pa_cons (pe_tup (pa_cons pe_str pa_nil)) (pa_cons (pe_lst (pa_cons pe_str pa_nil)) pa_nil))))))))))))))))
      (pss_one (ps_ret (pe_not (pe_callB (cr_any rfl) (by rfl) TF.any (by decide +kernel) (pa_cons (pe_lc (own := [("odd", 9)]) (g := gName 9) (tt := tYes) rfl nd (pi_list (pe_op op_cat (pv 8) (pe_lst (pa_cons (pe_glob (v := .ref fB) (by rfl) gB rfl) pa_nil)))) (blkOk_by (N := ["source", "names", "most", "land", "k", "deed", "thing", "kept", "odds", "odd"]) (sc := defScope sDeeds) (by decide +kernel))
          (fun _ _ _ _ _ => pg_name (i := 9) nd rfl (Or.inl rfl)) (fun _ _ _ _ _ => pts_nil) (fun _ _ _ _ _ => pe_cmpR (r := rNotB) op_notBl (pe_call GN hr (by rfl) gN kN bN .nil pass0 (pa_cons (pv 3) (pa_cons (pv 9) pa_nil))) pe_bl (nomark _))) pa_nil)))))))), ?_⟩
  have hss : ∀ s ∈ ss, s ∈ texts := fun s ms => List.mem_append_left _ (List.mem_append_left _ (h7 s ms))
  refine ⟨_, rfl, _, rfl, fun x dx nx ndx ne => mkLand (tp := false) g hm1 upd_same (by rw [upd_ne (ne_of_none hn nx), upd_ne (ne_of_none hn ndx)]; exact hn) fun H1 B1 L1 => ⟨rfl, ?_⟩⟩
  have e1 : Same H H1 := made_same nx ndx B1
  refine ⟨12, rfl, by decide, by decide, ?_⟩
  refine for_range (n := 12) (fun _ σ G => ∃ s4 s5 s6 s7 : Option V, σ = [some (.ref p), some (.ref n), some (.int m), some (.ref x), s4, s5, s6, s7, none, none] ∧ ButS p H G ∧ Src G p ∧ LandAt G CL x (ss.map V.str) m) ⟨_, _, _, _, rfl, ButS.same e1, Src.same S e1, L1⟩ ?_ ?_
  · rintro i σ G hi ⟨s4, s5, s6, s7, rfl, B, S, LG⟩
    have hnG := B _ _ np hn
    refine ⟨_, rfl, _, rfl, n, _, rfl, .inl (SqL.of hnG), fun l nl => ⟨p, l, ss, rfl, S.but nl, SqL.of upd_same, S.ne nl, hss, g.two, g.few, fun G2 T2 xs B2 S2 nT gT fl l2 l5 => ?_⟩⟩
    have C2 : ButS p G G2 := (ButS.same (Same.new nl)).trans B2
    refine ⟨_, rfl, p, 4, rfl, S2, by decide, by decide, fun G3 c B3 S3 c0 c4 => ⟨c, 0, rfl, rfl, _, rfl, ite2 (fun _ => ?_) (fun _ => ?_)⟩⟩
    all_goals
      have gT3 : G3 T2 = some (.tup xs) := B3 _ _ (src_ne S2 gT (by intro xs z; cases z)) gT
      have C3 : ButS p G G3 := C2.trans B3
    · refine ⟨_, rfl, _, rfl, _, rfl, p, n, T2, ss, xs, rfl, S3, SqL.of (C3 _ _ np hnG), np, hss, g.two, g.few, gT3, fl, l2, l5, fun G4 D tp ys B4 S4 nD gD items ly => ?_⟩
      have C4 : ButS p G G4 := C3.trans B4
      have L4 : LandAt G4 CL x (ss.map V.str) m := LG.src S C4
      have hn4 := C4 _ _ np hnG
      obtain ⟨ds, pd, sm, lds⟩ := items_data items
      have ld20 : ds.length ≤ 20 := by
        rw [lds]
        exact ly
      obtain ⟨kd, akd, skd⟩ := anyX (K := X.K) gD
      refine ⟨_, rfl, D, tp, ys, ds, rfl, gD, pd, sm, ld20, ?_⟩
      refine ⟨_, rfl, _, rfl, rfl, rfl, x, ss, m, .ref D, kd, rfl, L4, akd, (fun z => by rw [skd] at z; cases z), fun tq q xq eq gq _ => ?_⟩
      cases V.ref.inj eq
      have ex : ys = xq := mkX_at (Option.some.inj (gD.symm.trans gq))
      cases ex
      refine ⟨items_any items, by omega, fun G5 e5 => ?_⟩
      have gD5 := e5 _ _ gD
      refine ⟨_, rfl, _, rfl, n, ss, .ref D, kd, rfl, SqL.of (e5 _ _ hn4), akd.same e5, (fun z => by rw [skd] at z; cases z), fun t2 q2 x2 eq2 gq2 _ => ?_⟩
      cases V.ref.inj eq2
      have ex2 : ys = x2 := mkX_at (Option.some.inj (gD5.symm.trans gq2))
      cases ex2
      refine ⟨(items_any items).same e5, by omega, fun G6 e6 => ?_⟩
      refine ⟨.bl (deedB ss ys), .bl (deedB ss ys), rfl, SameW.bl _, fun G7 e7 => ⟨true, rfl, iteF ?_⟩⟩
      have e47 : Same G4 G7 := (e5.trans e6).trans e7
      refine ⟨_, rfl, D, tp, ys, ds, rfl, e47 _ _ gD, pd_same pd e47, sm, ld20, _, rfl, rfl, _, rfl, iteNS rfl ?_⟩
      have C7 : ButS p G G7 := C4.trans (ButS.same e47)
      exact ⟨_, _, _, _, rfl, B.trans C7, Src.same S4 e47, L4.same e47⟩
    · refine ⟨_, rfl, ?_⟩
      obtain ⟨tp, etp⟩ : ∃ tp, tp = true := ⟨_, rfl⟩
      have gD : G3 T2 = some (mkX tp xs) := by
        rw [etp]
        exact gT3
      have items : ∀ y ∈ xs, Item G3 y := fun y my => .flat (fl y my)
      have ly : xs.length ≤ 20 := by omega
      have L4 : LandAt G3 CL x (ss.map V.str) m := LG.src S C3
      have S4 := S3
      have C4 := C3
      clear etp gT3
      have hn4 := C4 _ _ np hnG
      obtain ⟨ds, pd, sm, lds⟩ := items_data items
      have ld20 : ds.length ≤ 20 := by
        rw [lds]
        exact ly
      obtain ⟨kd, akd, skd⟩ := anyX (K := X.K) gD
      refine ⟨_, rfl, T2, tp, xs, ds, rfl, gD, pd, sm, ld20, ?_⟩
      refine ⟨_, rfl, _, rfl, rfl, rfl, x, ss, m, .ref T2, kd, rfl, L4, akd, (fun z => by rw [skd] at z; cases z), fun tq q xq eq gq _ => ?_⟩
      cases V.ref.inj eq
      have ex : xs = xq := mkX_at (Option.some.inj (gD.symm.trans gq))
      cases ex
      refine ⟨items_any items, by omega, fun G5 e5 => ?_⟩
      have gD5 := e5 _ _ gD
      refine ⟨_, rfl, _, rfl, n, ss, .ref T2, kd, rfl, SqL.of (e5 _ _ hn4), akd.same e5, (fun z => by rw [skd] at z; cases z), fun t2 q2 x2 eq2 gq2 _ => ?_⟩
      cases V.ref.inj eq2
      have ex2 : xs = x2 := mkX_at (Option.some.inj (gD5.symm.trans gq2))
      cases ex2
      refine ⟨(items_any items).same e5, by omega, fun G6 e6 => ?_⟩
      refine ⟨.bl (deedB ss xs), .bl (deedB ss xs), rfl, SameW.bl _, fun G7 e7 => ⟨true, rfl, iteF ?_⟩⟩
      have e47 : Same G3 G7 := (e5.trans e6).trans e7
      refine ⟨_, rfl, T2, tp, xs, ds, rfl, e47 _ _ gD, pd_same pd e47, sm, ld20, _, rfl, rfl, _, rfl, iteNS rfl ?_⟩
      have C7 : ButS p G G7 := C4.trans (ButS.same e47)
      exact ⟨_, _, _, _, rfl, B.trans C7, Src.same S4 e47, L4.same e47⟩
  · rintro σ G ⟨s4, s5, s6, s7, rfl, B, S, LG⟩
    obtain ⟨G0, eG0⟩ : ∃ G0, G0 = G := ⟨_, rfl⟩
    have eN : Same G0 G := by
      rw [eG0]
      exact Same.refl _
    have one : 1 ≤ sizeLine := by decide
    rw [← eG0] at B S LG
    clear eG0
    refine ⟨Nat.zero_le _, fun a1 n1 => ?_⟩
    have eN := eN.trans (Same.new (u := .lst []) n1)
    have D1 : NoDeed X.K ss (upd G a1 (.lst [])) (.ref a1) := .seq (tp := false) upd_same (fun x m => by cases m) (by simp) rfl
    generalize upd G a1 (.lst []) = G at eN  D1
    refine ⟨Nat.zero_le _, fun a2 n2 => ?_⟩
    have eN := eN.trans (Same.new (u := .tup []) n2)
    have D1 := D1.same (Same.new (u := .tup []) n2)
    have D2 : NoDeed X.K ss (upd G a2 (.tup [])) (.ref a2) := .seq (tp := true) upd_same (fun x m => by cases m) (by simp) rfl
    generalize upd G a2 (.tup []) = G at eN D1 D2
    refine fun a3 n3 => ?_
    have eN := eN.trans (Same.new (u := .dK []) n3)
    have D1 := D1.same (Same.new (u := .dK []) n3)
    have D2 := D2.same (Same.new (u := .dK []) n3)
    have D3 : NoDeed X.K ss (upd G a3 (.dK [])) (.ref a3) := .no (.dct upd_same) rfl
    generalize upd G a3 (.dK []) = G at eN D1 D2 D3
    refine ⟨_, rfl, _, rfl, Nat.zero_le _, fun a4 n4 => ?_⟩
    have g4 : (upd G a4 (.lst [])) a4 = some (.lst []) := upd_same
    have eN := eN.trans (Same.new (u := .lst []) n4)
    have D1 := D1.same (Same.new (u := .lst []) n4)
    have D2 := D2.same (Same.new (u := .lst []) n4)
    have D3 := D3.same (Same.new (u := .lst []) n4)
    generalize upd G a4 (.lst []) = G at eN D1 D2 D3 g4
    intro y dy ny ndy ney
    have ey : Same G (upd (upd G dy (.own y)) y (.ins CH dy [])) := fun b o e => by
      rw [upd_ne (ne_of_none e ny), upd_ne (ne_of_none e ndy)]
      exact e
    refine ⟨y, dy, x, a4, ss, m, rfl, upd_same, (LG.same eN).same ey, by have := g.few; omega, ey _ _ g4, fun H' fs B' hy => ⟨rfl, ?_⟩⟩
    have eH : Same G H' := made_same ny ndy B'
    have eN := eN.trans eH
    have D1 := D1.same eH
    have D2 := D2.same eH
    have D3 := D3.same eH
    have D4 : NoDeed X.K ss H' (.ref y) := .no (.ins hy hOC) rfl
    clear g4 ey B' hy eH
    obtain ⟨G, eGH⟩ : ∃ G, G = H' := ⟨_, rfl⟩
    rw [← eGH] at eN D1 D2 D3 D4 ⊢
    clear eGH
    refine ⟨one, fun b1 k1 => ?_⟩
    have eN := eN.trans (Same.new (u := .lst [.non]) k1)
    have D1 := D1.same (Same.new (u := .lst [.non]) k1)
    have D2 := D2.same (Same.new (u := .lst [.non]) k1)
    have D3 := D3.same (Same.new (u := .lst [.non]) k1)
    have D4 := D4.same (Same.new (u := .lst [.non]) k1)
    have D5 : NoDeed X.K ss (upd G b1 (.lst [.non])) (.ref b1) := .seq (tp := false) upd_same (all_cons ⟨_, .non⟩ all_nil) (by simp) rfl
    generalize upd G b1 (.lst [.non]) = G at eN D1 D2 D3 D4 D5
    refine ⟨Nat.zero_le _, fun b2 k2 => ?_⟩
    have g2 : (upd G b2 (.lst [])) b2 = some (.lst []) := upd_same
    have eN := eN.trans (Same.new (u := .lst []) k2)
    have D1 := D1.same (Same.new (u := .lst []) k2)
    have D2 := D2.same (Same.new (u := .lst []) k2)
    have D3 := D3.same (Same.new (u := .lst []) k2)
    have D4 := D4.same (Same.new (u := .lst []) k2)
    have D5 := D5.same (Same.new (u := .lst []) k2)
    generalize upd G b2 (.lst []) = G at eN D1 D2 D3 D4 D5 g2
    refine ⟨one, fun b3 k3 => ?_⟩
    have eN := eN.trans (Same.new (u := .lst [.ref b2]) k3)
    have D1 := D1.same (Same.new (u := .lst [.ref b2]) k3)
    have D2 := D2.same (Same.new (u := .lst [.ref b2]) k3)
    have D3 := D3.same (Same.new (u := .lst [.ref b2]) k3)
    have D4 := D4.same (Same.new (u := .lst [.ref b2]) k3)
    have D5 := D5.same (Same.new (u := .lst [.ref b2]) k3)
    have D6 : NoDeed X.K ss (upd G b3 (.lst [.ref b2])) (.ref b3) := .seq (tp := false) upd_same (all_cons ⟨_, .lst (Same.new k3 _ _ g2)⟩ all_nil) (by simp) rfl
    generalize upd G b3 (.lst [.ref b2]) = G at eN D1 D2 D3 D4 D5 D6
    refine ⟨one, fun b4 k4 => ?_⟩
    have eN := eN.trans (Same.new (u := .tup [.str "wait"]) k4)
    have D1 := D1.same (Same.new (u := .tup [.str "wait"]) k4)
    have D2 := D2.same (Same.new (u := .tup [.str "wait"]) k4)
    have D3 := D3.same (Same.new (u := .tup [.str "wait"]) k4)
    have D4 := D4.same (Same.new (u := .tup [.str "wait"]) k4)
    have D5 := D5.same (Same.new (u := .tup [.str "wait"]) k4)
    have D6 := D6.same (Same.new (u := .tup [.str "wait"]) k4)
    have D7 : NoDeed X.K ss (upd G b4 (.tup [.str "wait"])) (.ref b4) := .seq (tp := true) upd_same (all_cons ⟨_, .str (by decide)⟩ all_nil) (by simp) noWait
    generalize upd G b4 (.tup [.str "wait"]) = G at eN D1 D2 D3 D4 D5 D6 D7
    refine ⟨one, fun b5 k5 => ?_⟩
    have eN := eN.trans (Same.new (u := .lst [.str "end"]) k5)
    have D1 := D1.same (Same.new (u := .lst [.str "end"]) k5)
    have D2 := D2.same (Same.new (u := .lst [.str "end"]) k5)
    have D3 := D3.same (Same.new (u := .lst [.str "end"]) k5)
    have D4 := D4.same (Same.new (u := .lst [.str "end"]) k5)
    have D5 := D5.same (Same.new (u := .lst [.str "end"]) k5)
    have D6 := D6.same (Same.new (u := .lst [.str "end"]) k5)
    have D7 := D7.same (Same.new (u := .lst [.str "end"]) k5)
    have D8 : NoDeed X.K ss (upd G b5 (.lst [.str "end"])) (.ref b5) := .seq (tp := false) upd_same (all_cons ⟨_, .str (by decide)⟩ all_nil) (by simp) noEnd
    generalize upd G b5 (.lst [.str "end"]) = G at eN D1 D2 D3 D4 D5 D6 D7 D8
    refine ⟨by show 14 ≤ sizeLine; decide, fun od nod => ?_⟩
    have DX : NoDeed X.K ss G (.ref x) := by
      obtain ⟨dl, Tl, h1, h2⟩ := LG.same eN
      exact .no (.ins h1 L.F.E.own) rfl
    have all14 : ∀ z ∈ [V.non, V.int 5, V.str "make", V.str "", V.ref a1, V.ref a2, V.ref a3, V.bl true, V.ref x, V.ref y, V.ref b1, V.ref b3, V.ref b4, V.ref b5], NoDeed X.K ss G z := all_cons (.no .non rfl) (all_cons (.no (.int 5) rfl) (all_cons (.no (.str (by decide)) rfl) (all_cons (.no (.str (by decide)) rfl) (all_cons D1 (all_cons D2 (all_cons D3 (all_cons (.no (.bl true) rfl) (all_cons DX (all_cons D4 (all_cons D5 (all_cons D6 (all_cons D7 (all_cons D8 all_nil)))))))))))))
    have eN := eN.trans (Same.new (u := .lst [V.non, V.int 5, V.str "make", V.str "", V.ref a1, V.ref a2, V.ref a3, V.bl true, V.ref x, V.ref y, V.ref b1, V.ref b3, V.ref b4, V.ref b5]) nod)
    have god : (upd G od (.lst [V.non, V.int 5, V.str "make", V.str "", V.ref a1, V.ref a2, V.ref a3, V.bl true, V.ref x, V.ref y, V.ref b1, V.ref b3, V.ref b4, V.ref b5])) od = some (.lst [V.non, V.int 5, V.str "make", V.str "", V.ref a1, V.ref a2, V.ref a3, V.bl true, V.ref x, V.ref y, V.ref b1, V.ref b3, V.ref b4, V.ref b5]) := upd_same
    have all14 : ∀ z ∈ [V.non, V.int 5, V.str "make", V.str "", V.ref a1, V.ref a2, V.ref a3, V.bl true, V.ref x, V.ref y, V.ref b1, V.ref b3, V.ref b4, V.ref b5], NoDeed X.K ss (upd G od (.lst [V.non, V.int 5, V.str "make", V.str "", V.ref a1, V.ref a2, V.ref a3, V.bl true, V.ref x, V.ref y, V.ref b1, V.ref b3, V.ref b4, V.ref b5])) z := fun z mz => (all14 z mz).same (Same.new nod)
    have len14 : [V.non, V.int 5, V.str "make", V.str "", V.ref a1, V.ref a2, V.ref a3, V.bl true, V.ref x, V.ref y, V.ref b1, V.ref b3, V.ref b4, V.ref b5].length = 14 := rfl
    generalize upd G od (.lst [V.non, V.int 5, V.str "make", V.str "", V.ref a1, V.ref a2, V.ref a3, V.bl true, V.ref x, V.ref y, V.ref b1, V.ref b3, V.ref b4, V.ref b5]) = G at eN god all14 ⊢
    generalize [V.non, V.int 5, V.str "make", V.str "", V.ref a1, V.ref a2, V.ref a3, V.bl true, V.ref x, V.ref y, V.ref b1, V.ref b3, V.ref b4, V.ref b5] = L14 at god all14 len14 ⊢
    clear D1 D2 D3 D4 D5 D6 D7 D8 DX
    refine ⟨_, rfl, one, fun c1 j1 => ?_⟩
    have eN := eN.trans (Same.new (u := .lst [.ref fB]) j1)
    have gc1 : (upd G c1 (.lst [.ref fB])) c1 = some (.lst [.ref fB]) := upd_same
    have god := Same.new (u := .lst [.ref fB]) j1 _ _ god
    have all14 : ∀ z ∈ L14, NoDeed X.K ss (upd G c1 (.lst [.ref fB])) z := fun z mz => (all14 z mz).same (Same.new j1)
    generalize upd G c1 (.lst [.ref fB]) = G at eN gc1 god all14
    refine ⟨od, c1, L14, [.ref fB], rfl, rfl, god, gc1, by rw [len14, sizeLine_eq]; exact (show 14 + 1 ≤ 16777216 by decide), fun c2 j2 => ?_⟩
    have eN := eN.trans (Same.new (u := .lst (L14 ++ [.ref fB])) j2)
    have gc2 : (upd G c2 (.lst (L14 ++ [.ref fB]))) c2 = some (.lst (L14 ++ [.ref fB])) := upd_same
    have all15 : ∀ z ∈ L14 ++ [V.ref fB], NoDeed X.K ss (upd G c2 (.lst (L14 ++ [.ref fB]))) z := all_app (fun z mz => (all14 z mz).same (Same.new j2)) (all_cons (.no (.fn lB cB) rfl) all_nil)
    have len15 : (L14 ++ [V.ref fB]).length = 15 := by
      rw [List.length_append, len14]
      rfl
    refine ⟨c2, rfl, ⟨_, SqL.of gc2⟩, fun D nD => ?_⟩
    generalize upd G c2 (.lst (L14 ++ [.ref fB])) = G at eN gc2 all15 nD ⊢
    generalize L14 ++ [V.ref fB] = L15 at gc2 all15 len15
    have LG := LG.same eN
    have ext : ∀ G', (∀ b o, b ≠ D → G b = some o → G' b = some o) → Same G G' := fun G' e b o k => e b o (ne_of_none k nD) k
    refine lc_list (xs := L15) (fun i G' => (∀ b o, b ≠ D → G b = some o → G' b = some o) ∧ G' D = some (.lst ((L15.take i).map fun _ => V.bl false))) ⟨fun b o nb e => by rw [upd_ne nb]; exact e, by rw [upd_same]; rfl⟩ (fun i G' hi q => SqL.of (q.1 _ _ (ne_of_none gc2 nD) gc2)) (fun i z G' hz ⟨m1, m2⟩ => ?_) (fun G' ⟨m1, m2⟩ => ?_)
    · have eG := ext G' m1
      obtain ⟨kz, az, sz⟩ := (all15 z (List.mem_of_getElem? hz)).same eG
      have hi : i < L15.length := (List.getElem?_eq_some_iff.mp hz).1
      have onward : ∀ G2, Same G' G2 → ∃ acc, G2 D = some (.lst acc) ∧ acc.length < sizeLine ∧ (∀ b o, b ≠ D → G b = some o → (upd G2 D (.lst (acc ++ [V.bl false]))) b = some o) ∧ (upd G2 D (.lst (acc ++ [V.bl false]))) D = some (.lst ((L15.take (i + 1)).map fun _ => V.bl false)) := fun G2 e2 => by
        refine ⟨_, e2 _ _ m2, ?_, fun b o nb e => ?_, ?_⟩
        · rw [List.length_map, List.length_take, len15, sizeLine_eq]
          omega
        · rw [upd_ne nb]
          exact e2 _ _ (m1 b o nb e)
        · rw [upd_same, const_step hz]
      refine ⟨rfl, _, rfl, _, rfl, x, ss, m, z, kz, rfl, LG.same eG, az, fun _ G2 e2 => ⟨false, false, rfl, rfl, onward G2 e2⟩, fun tp q xs eq gq sq => ?_⟩
      obtain ⟨p2, t2, x2, e2, g2, a2, l2, d2⟩ := sz sq
      rw [eq] at e2
      cases V.ref.inj e2
      have ex : xs = x2 := mkX_at (Option.some.inj (gq.symm.trans g2))
      cases ex
      refine ⟨a2, l2, fun G2 e2 => ?_⟩
      rw [d2]
      exact ⟨false, false, rfl, rfl, onward G2 e2⟩
    · rw [List.take_length, map_const_bl] at m2
      refine ⟨D, _, rfl, SqL.of m2, ?_⟩
      rw [any_const false L15 (by intro z; rw [z] at len15; cases len15)]
      have eG := ext G' m1
      exact ⟨_, rfl, q _ (B.trans (ButS.same (eN.trans eG))) (Src.same S (eN.trans eG))⟩
end OB
namespace OB
open PySem PySem.Spec PyProof.Rows L2 LamX
/-! ### the law itself -/
abbrev sLaw : Stmt := top 64
section
variable {X : Cx} {k : Nat} {f : Addr} {x : Str} {st : Stmt} {fd : FuncData} {ps : List Str} {sp : List V → Hp → VK → Prop} {e : Expr} {es : List Expr} {t : TA} {p pos : Pos}
theorem pe_at (F : Fun X.K x x st f fd) (B : BodyAt X k f x st ps sp) (hr : Room (k + 1) X.A) (hg : Gl X x) (hm : X.mg x = some (.ref f)) (hb : L2.Binds X.K fd ps []) (ha : PA X (e :: es) t)
    (hdb : (x == ("__debug__" : Str)) = false := by decide) (hs : starEach (e :: es) X.env = (false, eval e X.env) :: starEach es X.env := by rfl) (hpl : (backTo pos (starEach es X.env)).any (·.1) = false := by rfl) :
    PE X (.Call (.Name x p) (e :: es) [] pos) (fun σ H Q => t σ H fun vs H1 => sp vs H1 Q) := by
  refine ⟨fun pins s σ H Q I h => wpAny_Call_Name_kw (ld_glob I hg hm ?_ hdb)⟩
  refine PySem.W.callWith_K (h₀ := X.base) I.ok.mod.kin F.kp (thn (ha.run pos pins s σ H _ I h) fun us s1 ⟨vs, H1, I1, r1, q1⟩ => ⟨I1.kIn, ?_⟩) hs hpl
  obtain ⟨oc, od, kV, doc, pm, an, cdv, ct, osl, rfl, lk, hcd⟩ := F.ex
  show wpAny _ _ (call (.ref f) us) _ _ _
  obtain ⟨hl, N, S, tt, ht, hq⟩ := B cdv s1 H1 vs Q (hr.deeper _) q1
  have hu : us.length = ps.length := r1.length ▸ hl
  have bd : BindsTo s1 (PySem.W.fnOf x x (defArgs st) (defBody st) (defScope st) .none kV doc pm an cdv ct) ⟨us, []⟩ (ps.zip us) := by
    have z := hb s1 us I1.kIn (by rw [List.append_nil]; exact hu)
    rw [List.append_nil] at z
    exact z
  refine wpAny_call (codeAny_mono (run_ofS (Q := Q) lk hcd S hr I1.env0 bd r1 hl fun _ => ⟨tt, ht, hq⟩) fun r s' z => ?_)
  match r, z with
  | .ok (.ret u), z => exact I1.after z
end
theorem SqL.keepN {K : PySem.W.Frag} {p t : Addr} {H H1 H2 : Hp} {xs : List V} (h : SqL K H t xs) (n : H p = none) (e : Same H H1) (b : ButN p H1 H2) : SqL K H2 t xs := by
  rcases h with (h | ⟨o, h⟩) | h
  · exact .inl (.inl (b _ _ (ne_of_none h n) (by intro ps z; cases z) (e _ _ h)))
  · exact .inl (.inr ⟨o, b _ _ (ne_of_none h n) (by intro ps z; cases z) (e _ _ h)⟩)
  · exact .inr h
theorem seven_good : ("other" : Str) ∉ seven := by decide +kernel
theorem goodN {ss : List Str} {n : Nat} (l : ss.length = n) (nd : ss.Nodup) (m : ∀ s ∈ ss, s ∈ seven) (n2 : 2 ≤ n) (n7 : n ≤ 7) : GoodN ss := ⟨fun s ms => List.mem_cons_of_mem _ (m s ms), nd, by omega, by omega⟩
def Nl : List Str := ["script", "turn", "source", "names", "most"]
theorem scLaw : FnScope Nl ["script"] (defScope sLaw) := ⟨rfl, rfl, rfl, by decide +kernel, rfl, by decide +kernel, by decide +kernel⟩
/-- the law's own context, at the outermost caller -/
abbrev cxLaw (P : Program) (w : World) (K : PySem.W.Frag) (mg : Str → Option Value) (base : Heap) (fa : Addr) (cdv : Value) (s : Shared) (H : Hp) : Cx := (cxOf CX0 P w K mg base Nl "law" (defScope sLaw) fa cdv callerA [] s H (fun _ _ _ => False)).nox
section
variable {P : Program} {w : World} {K : PySem.W.Frag} {mg : Str → Option Value} {base : Heap}
theorem law_body {fa fO fD fP fN fL fR fd a : Addr} {fdO fdD fdP fdN fdL fdR fdd : FuncData} {cdv : Value} {s : Shared} {H : Hp} {TT : List (Addr × Str)} {ns : List Int} (T : TxtD mg)
    (GO : FnOk P w K mg base CX0 2 fO fdO ["script", "k"] (spSource K)) (gO : mg "_law_source" = some (.ref fO)) (kO : PySem.W.keepIn K (.ref fO) = true) (bO : Binds K fdO ["script", "k"] [])
    (GD : FnOk P w K mg base CX0 1 fD fdD ["source", "many"] spDraw) (gD : mg "_law_draw" = some (.ref fD)) (kD : PySem.W.keepIn K (.ref fD) = true) (bD : Binds K fdD ["source", "many"] [])
    (GP : FnOk P w K mg base CX0 2 fP fdP ["source", "some"] (spPick K)) (gP : mg "_law_pick" = some (.ref fP)) (kP : PySem.W.keepIn K (.ref fP) = true) (bP : Binds K fdP ["source", "some"] [])
    (GN : FnOk P w K mg base CX0 3 fN fdN ["source", "many"] spONames) (gN : mg "_law_o_names" = some (.ref fN)) (kN : PySem.W.keepIn K (.ref fN) = true) (bN : Binds K fdN ["source", "many"] [])
    (GL : FnOk P w K mg base CX0 6 fL fdL ["source", "names", "most"] (spLands K)) (gL : mg "_law_lands_right" = some (.ref fL)) (kL : PySem.W.keepIn K (.ref fL) = true) (bL : Binds K fdL ["source", "names", "most"] [])
    (GR : FnOk P w K mg base CX0 8 fR fdR ["source", "names", "most"] (spRefused TT)) (gR : mg "_law_refused_right" = some (.ref fR)) (kR : PySem.W.keepIn K (.ref fR) = true) (bR : Binds K fdR ["source", "names", "most"] [])
    (Fd : Fun K "_law_deeds_right" "_law_deeds_right" sDeeds fd fdd) (gd : mg "_law_deeds_right" = some (.ref fd)) (bd : Binds K fdd ["source", "names", "most"] []) (DB : BodyAt (cxLaw P w K mg base fa cdv s H) 5 fd "_law_deeds_right" sDeeds ["source", "names", "most"] spDeeds)
    (hS : SqL K H a (ns.map V.int)) (tabs : Tabs TT H) (hr : Room 8 (cxLaw P w K mg base fa cdv s H).A) :
    ∃ t, PSs (cxLaw P w K mg base fa cdv s H) (defBody sLaw) t ∧ t { nx := fun _ _ => (V.non = .bl true), rt := fun v _ => v = .bl true } (L2.start Nl [.ref a]) H := by
  have nd := scLaw.nd
  have hr1 := hr.mono (show 1 ≤ 8 by decide)
  have hr2 := hr.mono (show 2 ≤ 8 by decide)
  have hr3 := hr.mono (show 3 ≤ 8 by decide)
  have hr6 := hr.mono (show 6 ≤ 8 by decide)
  refine ⟨_, pss_cons (ps_for PassesOwn.never rfl (pi_range1 (by rfl) T.rng (pa_cons pe_int pa_nil)) (pg_name (i := 1) nd rfl (Or.inl rfl))
      (pss_cons (ps_set (i := 2) nd rfl (Or.inl rfl) (pe_call GO hr2 (by rfl) gO kO bO .nil pass0 (pa_cons (pv 0) (pa_cons (pv 1) pa_nil))))
      (pss_cons (ps_set (i := 3) nd rfl (Or.inl rfl) (pe_call GN hr3 (by rfl) gN kN bN .nil pass0 (pa_cons (pv 2) (pa_cons (pe_op op_add pe_int (pe_call GD hr1 (by rfl) gD kD bD .nil pass0 (pa_cons (pv 2) (pa_cons pe_int pa_nil)))) pa_nil))))
      (pss_cons (ps_set (i := 4) nd rfl (Or.inl rfl) (pe_op op_add pe_int (pe_call GD hr1 (by rfl) gD kD bD .nil pass0 (pa_cons (pv 2) (pa_cons (pe_call GP hr2 (by rfl) gP kP bP .nil pass0 (pa_cons (pv 2) (pa_cons (pe_lst (pa_cons pe_int (pa_cons pe_int (pa_cons (pe_op op_sub (pe_op op_pow pe_int pe_int) pe_int) pa_nil)))) pa_nil))) pa_nil)))))
      (pss_cons (ps_if (PW.pt (pw_or (pt_not (pt_val (pe_call GL hr6 (by rfl) gL kL bL .nil pass0 (pa_cons (pv 2) (pa_cons (pv 3) (pa_cons (pv 4) pa_nil)))))) (pw_or1 (pt_not (pt_val (pe_call GR hr (by rfl) gR kR bR .nil pass0 (pa_cons (pv 2) (pa_cons (pv 3) (pa_cons (pv 4) pa_nil))))))))) (pss_one (ps_ret pe_bl)) pss_nil)
      (pss_one (ps_if (pt_not (pt_val (pe_at Fd DB hr6 (by rfl) gd bd (pa_cons (pv 2) (pa_cons (pv 3) (pa_cons (pv 4) pa_nil)))))) (pss_one (ps_ret pe_bl)) pss_nil)))))))
    (pss_one (ps_ret pe_bl)), ?_⟩
  refine ⟨4, rfl, by decide, by decide, ?_⟩
  refine for_range (n := 4) (fun _ σ G => ∃ s1 s2 s3 s4 : Option V, σ = [some (.ref a), s1, s2, s3, s4] ∧ SqL K G a (ns.map V.int) ∧ Tabs TT G) ⟨_, _, _, _, rfl, hS, tabs⟩ ?_ ?_
  · rintro i σ G hi ⟨s1, s2, s3, s4, rfl, hS, tabs⟩
    refine ⟨_, rfl, _, rfl, a, i, ns, by rw [Int.zero_add] <;> rfl, hS, fun G1 p np e1 S1 => ?_⟩
    have t1 : Tabs TT G1 := Tabs.same tabs e1
    refine ⟨_, rfl, _, rfl, p, 5, rfl, S1, by decide, by decide, fun G2 c B2 S2 c0 c5 => ⟨2, c, rfl, rfl, ?_⟩⟩
    obtain ⟨k, rfl⟩ := Int.eq_ofNat_of_zero_le c0
    have k5 : k < 5 := by omega
    have t2 : Tabs TT G2 := Tabs.but t1 S1 B2
    refine ⟨p, 2 + k, by rw [Int.natCast_add] <;> rfl, S2, by omega, fun G3 n ss B3 S3 nn gn ln nds mem => ?_⟩
    have t3 : Tabs TT G3 := Tabs.but t2 S2 B3
    have g : GoodN ss := goodN ln nds mem (by omega) (by omega)
    have no : ("other" : Str) ∉ ss := fun z => seven_good (mem _ z)
    have npp : n ≠ p := S2.ne nn
    refine ⟨_, rfl, _, rfl, 10, 15, rfl, rfl, ⟨by decide, by decide, by decide⟩, 10 ^ 15, 1, rfl, rfl, by show 3 ≤ sizeLine; decide, fun l nl => ?_⟩
    refine ⟨p, l, [.int 3, .int 100, .int (10 ^ 15 - 1)], rfl, S3.but nl, SqL.of upd_same, S3.ne nl, by simp, by simp, fun G4 j x B4 S4 hx => ?_⟩
    have B14 : ButS p G1 G4 := ((B2.trans B3).trans (ButS.same (Same.new nl))).trans B4
    obtain ⟨M, rfl, M1, M2⟩ : ∃ M : Int, x = .int M ∧ 0 < M ∧ M ≤ 10 ^ 15 := by
      match j, hx with
      | 0, hx => exact ⟨3, (Option.some.inj hx).symm, by decide, by decide⟩
      | 1, hx => exact ⟨100, (Option.some.inj hx).symm, by decide, by decide⟩
      | 2, hx => exact ⟨10 ^ 15 - 1, (Option.some.inj hx).symm, by decide, by decide⟩
    have small : M.natAbs < 2 ^ 4096 := by
      have z1 : M.natAbs ≤ 10 ^ 15 := by omega
      exact Nat.lt_of_le_of_lt z1 (Nat.lt_of_lt_of_le (show 10 ^ 15 < 2 ^ 64 by decide) (Nat.pow_le_pow_right (by decide) (by decide)))
    refine ⟨p, M, rfl, S4, M1, small, fun G5 d B5 S5 d0 dM => ⟨1, d, rfl, rfl, ?_⟩⟩
    have B15 : ButS p G1 G5 := B14.trans B5
    have t5 : Tabs TT G5 := Tabs.but t1 S1 B15
    have gn5 : G5 n = some (.lst (ss.map V.str)) := B5 _ _ npp (B4 _ _ npp (Same.new nl _ _ gn))
    refine ⟨_, rfl, _, rfl, _, rfl, p, n, ss, 1 + d, rfl, S5, gn5, npp, g, no, by omega, fun G6 B6 S6 => ⟨true, rfl, iteF ?_⟩⟩
    have t6 : Tabs TT G6 := Tabs.but t5 S5 B6
    refine ⟨_, rfl, _, rfl, _, rfl, p, n, ss, 1 + d, rfl, S6, B6 _ _ npp gn5, npp, g, by omega, t6, fun G7 B7 S7 t7 => ⟨true, rfl, iteF ?_⟩⟩
    have gn7 : G7 n = some (.lst (ss.map V.str)) := B7 _ _ npp (by intro ps z; cases z) (B6 _ _ npp gn5)
    refine ⟨_, rfl, _, rfl, _, rfl, p, n, ss, 1 + d, rfl, S7, gn7, npp, g, mem, by omega, fun G8 B8 S8 => ⟨true, rfl, iteF ?_⟩⟩
    exact ⟨_, _, _, _, rfl, OB.SqL.keepN hS np e1 (((ButN.of (B15.trans B6)).trans B7).trans (ButN.of B8)), Tabs.but t7 S7 B8⟩
  · rintro σ G ⟨s1, s2, s3, s4, rfl, _, _⟩
    rfl
end
end OB
namespace OB
open PySem PySem.Spec PyProof.Rows L2 LamX
/-! ### what is looked at behind the top -/
def gEs (g : Addr → Option Obj) (N : Addr) : List DictEntry := match g N with
  | some ⟨_, _, .dict es _, _⟩ => es.toList
  | _ => []
def inEs (es : List DictEntry) (x : Str) : Option Value := (es.find? fun e => e.key.isStr x).map (·.val)
def refIn (es : List DictEntry) (x : Str) : Addr := match inEs es x with
  | some (.ref a) => a
  | _ => 0
def adr (g : Addr → Option Obj) (x : Str) : Addr := refIn (gEs g mainGlobals) x
def clNs (g : Addr → Option Obj) (C : Addr) : Addr := match g C with
  | some ⟨_, _, .cls cd, _⟩ => cd.ns
  | _ => 0
def fnCd (g : Addr → Option Obj) (f : Addr) : List Addr := match g f with
  | some ⟨_, _, .func fd, _⟩ => (match fd.code with
    | .ref c => [c]
    | _ => []) ++ fd.closure.map (·.2)
  | _ => []
def fnAs (g : Addr → Option Obj) (f : Addr) : List Addr := f :: fnCd g f
def clsAs (g : Addr → Option Obj) (r : Str × List Str) : List Addr := adr g r.1 :: clNs g (adr g r.1) :: r.2.flatMap fun m => fnAs g (refIn (gEs g (clNs g (adr g r.1))) m)
def fns0 : List (Str × Nat) := [("is_integer", 5), ("is_number", 6), ("is_from_one", 7), ("is_list", 8), ("is_name", 9), ("is_word_of", 10), ("is_part", 19), ("told_deed", 20), ("told_names", 34), ("check_land", 36), ("is_deed", 37), ("empty_scene", 40)]
def fns1 : List (Str × Nat) := [("_law_cell", 46), ("_law_source", 47), ("_law_draw", 48), ("_law_pick", 49), ("_law_mixed", 50), ("_law_same", 51), ("_law_loose", 52), ("_law_o_names", 53), ("_law_s_any", 54), ("_law_met", 55), ("_law_is_name", 56), ("_law_is_part", 57), ("_law_is_deed", 58), ("_law_first_odd", 59), ("_law_lands_right", 60), ("_law_refused_right", 61), ("_law_bent", 62), ("_law_deeds_right", 63), ("law", 64)]
def fns : List (Str × Nat) := fns0 ++ fns1
def clss : List (Str × List Str) := [("AddressError", []), ("BadAddresses", ["__init__"]), ("BadMost", ["__init__"]), ("Land", ["__init__", "__eq__", "addresses", "most"]), ("Scene", ["__init__"]), ("History", ["__init__"])]
def asK (g : Addr → Option Obj) : List Addr := mainGlobals :: cStatics :: sysModules :: adr g "FORMS" :: (fns.flatMap (fun p => fnAs g (adr g p.1)) ++ clss.flatMap (clsAs g))
def KO (g : Addr → Option Obj) : PySem.W.Frag := He.frT g (asK g)
/-! ### defs -/
def dFn (p : Str × Nat) : He.FnD := ⟨(p.1, none), p.1, p.1, defArgs (top p.2), defBody (top p.2), defScope (top p.2)⟩
def dMe (c m q : Str) (st : Stmt) : He.FnD := ⟨(c, some m), m, q, defArgs st, defBody st, defScope st⟩
def mes : List He.FnD := [dMe "Land" "__init__" "Land.__init__" (inClass (top 35) 0), dMe "Land" "__eq__" "Land.__eq__" (inClass (top 35) 1), dMe "Land" "addresses" "Land.addresses" (inClass (top 35) 2), dMe "Land" "most" "Land.most" (inClass (top 35) 3), dMe "Scene" "__init__" "Scene.__init__" (inClass (top 39) 0), dMe "History" "__init__" "History.__init__" (inClass (top 44) 0)]
def fnD : List He.FnD := fns.map dFn ++ mes
/-! ### facts -/
def frees : List Str := ["isinstance", "int", "bool", "str", "list", "tuple", "len", "all", "abs", "sum", "range", "zip", "set", "dict", "any", "enumerate", "repr", "super"]
def fa0 : List He.Fa := fns.map (fun p => He.Fa.glo p.1) ++ frees.map He.Fa.free
def fa1 : List He.Fa := [.glo "BadAddresses", .glo "BadMost", .glo "Land", .glo "Scene", .glo "History", .glo "FORMS", .glo "AddressError", .str "LETTERS" letters, .str "FIGURES" figures, .int "LONGEST_NAME" 8, .int "FEWEST" 2,
  .cls "Land", .cls "Scene", .cls "History", .noat "Land" "_names", .noat "Land" "_most", .noat "Scene" "lying", .noat "Scene" "born", .noat "Scene" "days", .noat "History" "_land", .noat "History" "_told", .noat "History" "_scenes",
  .meth "Land" "addresses", .meth "Land" "most", .meth "Land" "__eq__", .meth "Land" "__init__", .meth "Scene" "__init__", .meth "History" "__init__", .mkr "Land", .mkr "Scene", .mkr "History", .noat "BadAddresses" "index", .noat "BadMost" "most", .exm "BadAddresses" "BadAddresses" true, .exm "BadMost" "BadAddresses" false, .exm "BadMost" "BadMost" true]
def fa2 : List He.Fa := fns.map fun p => He.Fa.keep p.1
def faA : List He.Fa := fa0 ++ (fa1 ++ fa2)
def words : List Str := ["make", "grow", "move", "swap", "cut", "split", "pour", "drop", "end", "wait"]
/-- an own class, as isinstance and == see it -/
def ownB (K : PySem.W.Frag) (C : Addr) : Bool := He.eqO (PySem.W.findIn K (.ref C) "__class__") (some (some (.builtin "object.__class__"))) && (He.eqO (PySem.W.specialIn K (.builtin "object.__class__") "__get__") (some (some (.builtin "getset_descriptor.__get__"))) &&
  (decide (PySem.W.takesIn K (.builtin "object.__class__") = some true) && (decide (PySem.W.mroIn K C (.type "object") = some true) && (["int", "bool", "str", "list", "tuple", "dict"].all fun T => decide (PySem.W.kitOne K (.ref C) (.type T) = some false)))))
def fiveT : List String := ["NoneType", "int", "list", "dict", "function"]
def landB (K : PySem.W.Frag) (C : Addr) : Bool := (fiveT.all fun T => PySem.W.notFirst K C (.type T)) && (PySem.W.notFirst K C (.ref C) && (decide (PySem.W.kitOne K (.ref C) (.ref C) = some true) && (He.eqO (PySem.W.findIn K (.ref C) "__ne__") (some (some (.builtin "object.__ne__"))) &&
  (decide (PySem.W.subIn K (.ref C) (.type "object") = some true) && (fiveT.all fun T => decide (PySem.W.kitOne K (.type T) (.ref C) = some false))))))
def errT : List Value := [.type "ValueError", .type "Exception", .type "BaseException", .type "object"]
def newIs (sl : List (Option Value)) : Bool := match sl with
  | [_, _, _, _, some (.builtin n), _] => n == "ValueError.__new__"
  | _ => false
def errShape (K : PySem.W.Frag) (C cE : Addr) : Bool := match K.lookup C with
  | some ⟨.type "type", _, .cls cd, sl⟩ => decide (cd.mro = .ref C :: .ref cE :: errT) && (cd.hasDict && (!cd.hasDel && newIs sl.toList))
  | _ => false
def fileIs (K : PySem.W.Frag) (file : Str) (cda : Addr) : Bool := match K.lookup cda with
  | some ⟨_, _, .fields vs, _⟩ => (match (vs[2]? : Option Value) with
    | some (.str z _) => file == z
    | _ => false)
  | _ => false
def cellIs (K : PySem.W.Frag) (C : Addr) (cl : List (Str × Addr)) : Bool := match cl with
  | [(_, cc)] => (match K.lookup cc with
    | some ⟨_, _, .cell (some (.ref C')), _⟩ => C' == C
    | _ => false)
  | _ => false
def initShape (K : PySem.W.Frag) (file : Str) (C f : Addr) : Bool := match K.lookup f with
  | some ⟨_, _, .func fd, _⟩ => (match fd.code with
      | .ref cda => PySem.W.codeIn K (.ref cda) fd.qualname && fileIs K file cda
      | _ => false) && cellIs K C fd.closure
  | _ => false
abbrev InV : Type := Option (Str × Arguments × FuncBody × Scope × Addr × List Str × Value × Value × Addr)
def initO (K : PySem.W.Frag) (f : Addr) : InV := match K.lookup f with
  | some ⟨_, _, .func fd, _⟩ => some (fd.name, fd.params, fd.body, fd.scope, fd.globals, fd.closure.map (·.1), fd.defaults, fd.kwdefaults, fd.builtins)
  | _ => none
def initV (st : Stmt) : InV := some ("__init__", defArgs st, .stmts (defBody st), defScope st, mainGlobals, ["__class__"], .none, .none, builtinsNs)
def errB (K : PySem.W.Frag) (file x : Str) : Bool := errShape K (He.ga K x) (He.ga K "AddressError") && (PySem.W.keepIn K (.ref (He.ga K x)) && (He.eqO (PySem.W.findIn K (.ref (He.ga K x)) "__setattr__") (some (some (.builtin "object.__setattr__"))) &&
  (He.eqO (PySem.W.findIn K (.ref (He.ga K x)) "__init__") (some (some (.ref (He.ma K (He.ga K x) "__init__")))) && (decide (PySem.W.typeIn K (.ref (He.ma K (He.ga K x) "__init__")) = some (.type "function")) && (He.eqO (PySem.W.ks_superIn K (He.ga K x) (He.ga K x) "__init__") (some (some (.builtin "ValueError.__init__"))) &&
  (PySem.W.excInitIn K (He.ga K x) errT "ValueError.__new__" && (xfB K (He.ga K x) && (initShape K file (He.ga K x) (He.ma K (He.ga K x) "__init__") && (decide (PySem.W.mroIn K (He.ga K x) (.ref (He.ga K x)) = some true) && (decide (PySem.W.subIn K (.ref (He.ga K x)) (.type "ValueError") = some true) &&
  (decide (PySem.W.subIn K (.ref (He.ga K x)) (.type "BaseException") = some true) && decide (PySem.W.typeIn K (.ref (He.ga K x)) = some (.type "type")))))))))))))
def valB (K : PySem.W.Frag) (a : Addr) : Bool := words.all fun z => match PySem.W.nsIn K a z, formOf z with
  | some (some (.str f _)), some f' => decide (f = f')
  | _, _ => false
def hasB (K : PySem.W.Frag) (a : Addr) : Bool := match K.lookup a with
  | some _ => true
  | none => false
def clsIs (K : PySem.W.Frag) (a : Addr) : Bool := match K.lookup a with
  | some ⟨.type c, _, _, _⟩ => decide (c = "function")
  | _ => false
def tfs : List He.Defn := [("_law_refused_right", none)]
def file : Str := "/claim/cut.py"
def exB (K : PySem.W.Frag) : Bool := ownB K (He.ga K "Land") && (ownB K (He.ga K "History") && (landB K (He.ga K "Land") && (errB K file "BadAddresses" && (errB K file "BadMost" && (He.eqO (PySem.W.nsIn K cStatics "thirdparty.any") (some none) && (valB K (He.ga K "FORMS") && (hasB K sysModules && (clsIs K (He.ga K "_law_met") && clsIs K (He.ga K "_law_bent")))))))))
def inits : List (Str × Stmt) := [("BadAddresses", inClass (top 25) 0), ("BadMost", inClass (top 26) 0)]
/-! ### the looks -/
abbrev LA : Type := List He.FnV
abbrev LB : Type := Bool
abbrev LC : Type := List (Option (List (Option (Str × Int)))) × List InV
def lkA (g : Addr → Option Obj) : LA := fnD.map fun d => He.fnObs (KO g) d.at_
def lkB (g : Addr → Option Obj) : LB := (faA.all fun f => f.ok (KO g)) && fnD.all fun d => (He.Fa.code d.at_ d.qual).ok (KO g)
def lkC (g : Addr → Option Obj) : LC := ([He.dicW (KO g) (He.ga (KO g) "FORMS")], inits.map fun p => initO (KO g) (He.ma (KO g) (He.ga (KO g) p.1) "__init__"))
def lkD (g : Addr → Option Obj) : LB := exB (KO g) && He.tabsB g tfs (KO g)
def vA : LA := fnD.map He.FnD.val
def vC (w : World) : LC := ([some (He.keysIn w.params words)], inits.map fun p => initV p.2)
end OB
namespace OB
open PySem PySem.W PySem.Calls PyProof.Rows
abbrev R : OpenRow := OpenLaw.row PySem.Challenge.rw_oldaddress_k01_whole_lands_and_deeds
abbrev qv : Program := view R.prog [64]
def names0 : List PySem.Str := ["_wall", "__name__", "LETTERS", "FIGURES", "LONGEST_NAME", "is_integer", "is_number", "is_from_one", "is_list", "is_name", "is_word_of", "size_of", "row_of", "part_of", "without", "place_in", "FORMS", "is_part", "told_deed", "deed_can_be_done", "rows_behind", "AddressError", "BadAddresses", "BadMost", "BadLand", "BadDeeds", "BadMoment", "NoAddress", "BadPiece", "FEWEST", "told_names"]
def names1 : List PySem.Str := ["Land", "check_land", "is_deed", "Scene", "empty_scene", "scene_behind", "deed_done_there", "History", "_law_cell", "_law_source", "_law_draw", "_law_pick", "_law_mixed", "_law_same", "_law_loose", "_law_o_names", "_law_s_any", "_law_met", "_law_is_name", "_law_is_part", "_law_is_deed", "_law_first_odd", "_law_lands_right", "_law_refused_right", "_law_bent", "_law_deeds_right"]
def names : List PySem.Str := names0 ++ names1
def RunL : Prop := ∀ (w : World) (os : OsState), (HandSHeadRun.endF (HandSHeadRun.stepQ (HandSHeadRun.denQ HandSHeadRun.tabQ) R.prog w) 20000 R.prog w os).map (fun s => HandSHeadRun.looksF R.prog (boot_heap w.params) s.abs) = some true
def RunP {β : Type} (ob : SharedT → β) (v : World → β) : Prop := ∀ (w : World) (os : OsState), (HandSHeadRun.endF (HandSHeadRun.stepQ (HandSHeadRun.denQ HandSHeadRun.tabQ) R.prog w) 20000 R.prog w os).map ob = some (v w)
theorem both {β : Type} {ob : SharedT → β} {v : World → β} (h0 : ∀ (w : World) (os : OsState), (HandSHeadRun.endF (HandSHeadRun.stepQ (HandSHeadRun.denQ HandSHeadRun.tabQ) R.prog (w.withFollow "special-get-raises" false)) 20000 R.prog (w.withFollow "special-get-raises" false) os).map ob = some (v (w.withFollow "special-get-raises" false)))
    (h1 : ∀ (w : World) (os : OsState), (HandSHeadRun.endF (HandSHeadRun.stepQ (HandSHeadRun.denQ HandSHeadRun.tabQ) R.prog (w.withFollow "special-get-raises" true)) 20000 R.prog (w.withFollow "special-get-raises" true) os).map ob = some (v (w.withFollow "special-get-raises" true))) : RunP ob v := fun w =>
  byRow2 "special-get-raises" (P := fun w => ∀ os : OsState, (HandSHeadRun.endF (HandSHeadRun.stepQ (HandSHeadRun.denQ HandSHeadRun.tabQ) R.prog w) 20000 R.prog w os).map ob = some (v w)) h0 h1 w
end OB
namespace OB
open PySem PySem.W PySem.Calls PyProof.Rows
theorem runL0 (w : World) (os : OsState) : (HandSHeadRun.endF (HandSHeadRun.stepQ (HandSHeadRun.denQ HandSHeadRun.tabQ) R.prog (w.withFollow "special-get-raises" false)) 20000 R.prog (w.withFollow "special-get-raises" false) os).map (fun s => HandSHeadRun.looksF R.prog (boot_heap (w.withFollow "special-get-raises" false).params) s.abs) = some true := by
  kernel_rfl
theorem runL1 (w : World) (os : OsState) : (HandSHeadRun.endF (HandSHeadRun.stepQ (HandSHeadRun.denQ HandSHeadRun.tabQ) R.prog (w.withFollow "special-get-raises" true)) 20000 R.prog (w.withFollow "special-get-raises" true) os).map (fun s => HandSHeadRun.looksF R.prog (boot_heap (w.withFollow "special-get-raises" true).params) s.abs) = some true := by
  kernel_rfl
theorem runL : RunL := fun w => byRow2 "special-get-raises" (P := fun w => ∀ os : OsState, (HandSHeadRun.endF (HandSHeadRun.stepQ (HandSHeadRun.denQ HandSHeadRun.tabQ) R.prog w) 20000 R.prog w os).map (fun s => HandSHeadRun.looksF R.prog (boot_heap w.params) s.abs) = some true) runL0 runL1 w
end OB
namespace OB
open PySem PySem.W PySem.Calls PyProof.Rows
theorem runB : RunP (fun s => lkB (HandSHeadRun.getT s)) (fun _ => true) := both (fun w os => by kernel_rfl) (fun w os => by kernel_rfl)
end OB
namespace OB
open PySem PySem.W PySem.Calls PyProof.Rows
theorem runA : RunP (fun s => lkA (HandSHeadRun.getT s)) (fun _ => vA) := both (fun w os => by kernel_rfl) (fun w os => by kernel_rfl)
end OB
namespace OB
open PySem PySem.W PySem.Calls PyProof.Rows
theorem runC : RunP (fun s => lkC (HandSHeadRun.getT s)) vC := both (fun w os => by kernel_rfl) (fun w os => by kernel_rfl)
end OB
namespace OB
open PySem PySem.W PySem.Calls PyProof.Rows
theorem runD : RunP (fun s => lkD (HandSHeadRun.getT s)) (fun _ => true) := both (fun w os => by kernel_rfl) (fun w os => by kernel_rfl)
end OB
namespace OB
open PySem PySem.W PySem.Calls PyProof.Rows
theorem runS : RunP (fun s => HandSHeadRun.seenQ qv names (importedModules R.prog.main.body) (fun s => xlAt qv [] s && recOk R.toRowW.records s) s.abs) (fun _ => openGood qv names) := both (fun w os => by kernel_rfl) (fun w os => by kernel_rfl)
end OB
namespace OB
open PySem PySem.Spec PyProof.Rows L2 LamX
/-! ### what the looks say -/
structure SaysK (w : World) (h : Heap) (K : PySem.W.Frag) : Prop where
  A : (fnD.map fun d => He.fnObs K d.at_) = vA
  B : ((faA.all fun f => f.ok K) && fnD.all fun d => (He.Fa.code d.at_ d.qual).ok K) = true
  C : ([He.dicW K (He.ga K "FORMS")], inits.map fun p => initO K (He.ma K (He.ga K p.1) "__init__")) = vC w
  D : exB K = true
  hd : ∀ p ∈ tfs, PySem.W.codeHdIn K (He.cT K p).1 (He.cT K p).2 = true
  out : ∀ p ∈ tfs, K.lookup (He.cT K p).2 = none
  empty : ∀ p ∈ tfs, h.get? (He.cT K p).2 = some { cls := .none, data := .fields #[] }
theorem SaysK.keeps {w : World} {h h' : Heap} {K : PySem.W.Frag} (s : SaysK w h K) (k : ∀ b o, h.get? b = some o → h'.get? b = some o) : SaysK w h' K := ⟨s.A, s.B, s.C, s.D, s.hd, s.out, fun p m => k _ _ (s.empty p m)⟩
abbrev LookT : Type := LA × (LB × (LC × LB))
def lk (g : Addr → Option Obj) : LookT := (lkA g, (lkB g, (lkC g, lkD g)))
def vl (w : World) : LookT := (vA, (true, (vC w, true)))
theorem says_of {w : World} {h : Heap} (e : lk h.get? = vl w) : ∃ K : PySem.W.Frag, K.In h ∧ SaysK w h K := by
  refine ⟨KO h.get?, He.frT_in, ?_⟩
  have eA : lkA h.get? = vA := congrArg (fun z : LookT => z.1) e
  have eB : lkB h.get? = true := congrArg (fun z : LookT => z.2.1) e
  have eC : lkC h.get? = vC w := congrArg (fun z : LookT => z.2.2.1) e
  have eD : lkD h.get? = true := congrArg (fun z : LookT => z.2.2.2) e
  obtain ⟨d1, d2⟩ := Bool.and_eq_true_iff.mp (show (exB (KO h.get?) && He.tabsB h.get? tfs (KO h.get?)) = true from eD)
  have key : ∀ p ∈ tfs, PySem.W.codeHdIn (KO h.get?) (He.cT (KO h.get?) p).1 (He.cT (KO h.get?) p).2 = true ∧ ∃ o, h.get? (He.cT (KO h.get?) p).2 = some o ∧ He.emptyTab o = true := fun p hp => by
    obtain ⟨h3, h4⟩ := Bool.and_eq_true_iff.mp (List.all_eq_true.mp (show (tfs.all fun p => PySem.W.codeHdIn (KO h.get?) (He.cT (KO h.get?) p).1 (He.cT (KO h.get?) p).2 && (match h.get? (He.cT (KO h.get?) p).2 with
      | some o => He.emptyTab o
      | none => false)) = true from d2) p hp)
    refine ⟨h3, ?_⟩
    cases q : h.get? (He.cT (KO h.get?) p).2 with
    | none =>
      rw [q] at h4
      cases h4
    | some o =>
      rw [q] at h4
      exact ⟨o, rfl, h4⟩
  refine ⟨eA, eB, eC, d1, fun p m => (key p m).1, fun p m => ?_, fun p m => ?_⟩
  · obtain ⟨_, o, q, z⟩ := key p m
    exact He.frT_none q z
  · obtain ⟨_, o, q, z⟩ := key p m
    rw [q, He.emptyTab_eq z]
section
variable {w : World} {h : Heap} {K : PySem.W.Frag} {mg : Str → Option Value} {base : Heap}
theorem SaysK.fact (s : SaysK w h K) {f : He.Fa} (m : f ∈ faA) : f.ok K = true := List.all_eq_true.mp (Bool.and_eq_true_iff.mp s.B).1 f m
theorem SaysK.def_ (s : SaysK w h K) {d : He.FnD} (m : d ∈ fnD) : ∃ oc od osl kV doc pm an cdv ct, K.lookup (He.fAd K d.at_) = some ⟨oc, od, .func (PySem.W.fnOf d.name d.qual d.params d.body d.scope .none kV doc pm an cdv ct), osl⟩ ∧ PySem.W.codeIn K cdv d.qual = true := by
  obtain ⟨i, hi, e⟩ := List.mem_iff_getElem.mp m
  have e2 : (fnD.map fun d => He.fnObs K d.at_)[i]? = (fnD.map He.FnD.val)[i]? := by rw [s.A] <;> rfl
  rw [List.getElem?_map, List.getElem?_map, List.getElem?_eq_getElem hi, e] at e2
  exact He.fn_ok (Option.some.inj e2) (List.all_eq_true.mp (Bool.and_eq_true_iff.mp s.B).2 d m)
theorem mem_fa0 {p : Str × Nat} (m : p ∈ fns) : He.Fa.glo p.1 ∈ faA := List.mem_append_left _ (List.mem_append_left _ (List.mem_map.mpr ⟨p, m, rfl⟩))
theorem mem_free {x : Str} (m : x ∈ frees) : He.Fa.free x ∈ faA := List.mem_append_left _ (List.mem_append_right _ (List.mem_map.mpr ⟨x, m, rfl⟩))
theorem mem_fa1 {f : He.Fa} (m : f ∈ fa1) : f ∈ faA := List.mem_append_right _ (List.mem_append_left _ m)
theorem mem_fa2 {p : Str × Nat} (m : p ∈ fns) : He.Fa.keep p.1 ∈ faA := List.mem_append_right _ (List.mem_append_right _ (List.mem_map.mpr ⟨p, m, rfl⟩))
/-- a def of the top -/
theorem SaysK.fn (s : SaysK w h K) (X : K.In base) (G : base.Ns mainGlobals mg) {x : Str} {i : Nat} (m : (x, i) ∈ fns) : mg x = some (.ref (He.ga K x)) ∧ ∃ fd, Fun K x x (top i) (He.ga K x) fd := by
  refine ⟨He.glo_ok X G (s.fact (mem_fa0 m)), ?_⟩
  obtain ⟨oc, od, osl, kV, doc, pm, an, cdv, ct, lk, hc⟩ := s.def_ (d := dFn (x, i)) (List.mem_append_left _ (List.mem_map.mpr ⟨_, m, rfl⟩))
  exact ⟨_, ⟨oc, od, kV, doc, pm, an, cdv, ct, osl, rfl, lk, hc⟩, s.fact (mem_fa2 m)⟩
theorem SaysK.free (s : SaysK w h K) (X : K.In base) (G : base.Ns mainGlobals mg) {x : Str} (m : x ∈ frees) : mg x = none := He.free_ok X G (s.fact (mem_free m))
end
end OB
namespace OB
open PySem PySem.Spec PyProof.Rows L2 LamX
/-! ### the two errors -/
theorem shape_ok {K : PySem.W.Frag} {C cE : Addr} (c : errShape K C cE = true) : ∃ nm q N bs sn sub ab col dd k0 k1 k2 k3 k5, K.lookup C = some (excClassObj nm q C N bs (.ref cE :: errT) true sn sub ab col dd k0 k1 k2 k3 k5 "ValueError.__new__") := by
  unfold errShape at c
  split at c
  · rename_i dd cd sl e
    simp only [Bool.and_eq_true, Bool.not_eq_true', decide_eq_true_eq] at c
    obtain ⟨c1, c2, c3, c4⟩ := c
    obtain ⟨nm, bs, mro, ns, qn, hd, sn, sb, ab, col, del⟩ := cd
    dsimp only at c1 c2 c3
    subst c1 c2 c3
    unfold newIs at c4
    split at c4
    · rename_i k0 k1 k2 k3 n k5 hs
      have en : n = "ValueError.__new__" := beq_iff_eq.mp c4
      subst en
      have hsl : sl = #[k0, k1, k2, k3, some (.builtin "ValueError.__new__"), k5] := by
        obtain ⟨l⟩ := sl
        simp only at hs
        rw [hs]
      subst hsl
      exact ⟨nm, qn, ns, bs, sn, sb, ab, col, dd, k0, k1, k2, k3, k5, e⟩
    · cases c4
  · cases c
structure ErrC (K : PySem.W.Frag) (x : Str) : Prop where
  shape : errShape K (He.ga K x) (He.ga K "AddressError") = true
  keep : PySem.W.keepIn K (.ref (He.ga K x)) = true
  sa : PySem.W.findIn K (.ref (He.ga K x)) "__setattr__" = some (some (.builtin "object.__setattr__"))
  iC : PySem.W.findIn K (.ref (He.ga K x)) "__init__" = some (some (.ref (He.ma K (He.ga K x) "__init__")))
  tC : PySem.W.typeIn K (.ref (He.ma K (He.ga K x) "__init__")) = some (.type "function")
  sup : PySem.W.ks_superIn K (He.ga K x) (He.ga K x) "__init__" = some (some (.builtin "ValueError.__init__"))
  exI : PySem.W.excInitIn K (He.ga K x) errT "ValueError.__new__" = true
  xf : XfC K (He.ga K x)
  ini : initShape K file (He.ga K x) (He.ma K (He.ga K x) "__init__") = true
  sub : PySem.W.mroIn K (He.ga K x) (.ref (He.ga K x)) = some true
  subV : PySem.W.subIn K (.ref (He.ga K x)) (.type "ValueError") = some true
  subB : PySem.W.subIn K (.ref (He.ga K x)) (.type "BaseException") = some true
  ty : PySem.W.typeIn K (.ref (He.ga K x)) = some (.type "type")
theorem errC_of {K : PySem.W.Frag} {x : Str} (e : errB K file x = true) : ErrC K x := by
  unfold errB at e
  simp only [Bool.and_eq_true, decide_eq_true_eq] at e
  obtain ⟨e1, e2, e3, e4, e5, e6, e7, e8, e9, e10, e11, e12, e13⟩ := e
  exact ⟨e1, e2, He.eqO_ok e3, He.eqO_ok e4, e5, He.eqO_ok e6, e7, xfB_ok e8, e9, e10, e11, e12, e13⟩
def IsInit (f : Str) (st : Stmt) : Prop := ∃ p1 p2 tx a b c d e e' g h i j, defArgs st = OE.eA f p1 p2 ∧ defBody st = [OE.eB0 tx a b c d e e', OE.eB1 f g h i j] ∧ defScope st = OE.eS f ∧ (c.endLine == e.line) = true
theorem iniA : IsInit "index" (inClass (top 25) 0) := ⟨_, _, _, _, _, _, _, _, _, _, _, _, _, rfl, rfl, rfl, rfl⟩
theorem iniM : IsInit "most" (inClass (top 26) 0) := ⟨_, _, _, _, _, _, _, _, _, _, _, _, _, rfl, rfl, rfl, rfl⟩
theorem bdsI : OE.Bds "index" := fun fd h1 h2 h3 x u => by
  obtain ⟨n1, n2, ps, b, s, c, d1, d2, g⟩ := fd
  obtain ⟨p1, p2, h1⟩ := h1
  dsimp only at h1 h2 h3
  subst h1 h2 h3
  exact ⟨rfl, rfl⟩
theorem bdsM : OE.Bds "most" := fun fd h1 h2 h3 x u => by
  obtain ⟨n1, n2, ps, b, s, c, d1, d2, g⟩ := fd
  obtain ⟨p1, p2, h1⟩ := h1
  dsimp only at h1 h2 h3
  subst h1 h2 h3
  exact ⟨rfl, rfl⟩
theorem init_of {P : Program} {K : PySem.W.Frag} {x : Str} {st : Stmt} (hf : file = P.main.file) (c : ErrC K x) (o : initO K (He.ma K (He.ga K x) "__init__") = initV st) :
    ∃ (oc : Value) (od : Option Addr) (doc pm : Value) (an : Option Addr) (ct : Value) (osl : Array (Option Value)) (qual : Str) (cc cda : Addr) (vs : Array Value) (fl : Str) (tf : Tok) (ccl cl : Value) (cdd cld : Option Addr) (ccs csl : Array (Option Value)),
    K.lookup (He.ma K (He.ga K x) "__init__") = some ⟨oc, od, .func (PySem.W.fnX "__init__" qual (defArgs st) (defBody st) (defScope st) [("__class__", cc)] .none .none doc pm an (.ref cda) ct), osl⟩ ∧ PySem.W.codeIn K (.ref cda) qual = true ∧
    K.lookup cda = some ⟨ccl, cdd, .fields vs, ccs⟩ ∧ vs[2]? = some (.str fl tf) ∧ ((P.main.file : Str) == fl) = true ∧ K.lookup cc = some ⟨cl, cld, .cell (some (.ref (He.ga K x))), csl⟩ := by
  have h := c.ini
  unfold initShape at h
  unfold initO at o
  cases e : K.lookup (He.ma K (He.ga K x) "__init__") with
  | none =>
    rw [e] at h
    cases h
  | some ob =>
    obtain ⟨oc, od, dt, osl⟩ := ob
    rw [e] at h o
    cases dt with
    | func fd =>
      obtain ⟨n1, n2, n3, n4, n5, n6, n7, n8, n9, n10, n11, n12, n13, n14, n15⟩ := fd
      dsimp only at h o
      simp only [Bool.and_eq_true] at h
      obtain ⟨h1, h2⟩ := h
      have o2 : (some (n1, n3, n4, n5, n6, n7.map (·.1), n8, n9, n15) : InV) = initV st := o
      unfold initV at o2
      simp only [Option.some.injEq, Prod.mk.injEq] at o2
      obtain ⟨o1, o2, o3, o4, o5, o6, o7, o8, o9⟩ := o2
      subst o1 o2 o3 o4 o5 o7 o8 o9
      unfold cellIs at h2
      split at h2
      · rename_i y cc
        split at h2
        · rename_i cl cld C' csl ec
          have eC : C' = He.ga K x := beq_iff_eq.mp h2
          subst eC
          have ex : y = ("__class__" : Str) := by simpa using o6
          subst ex
          split at h1
          · rename_i cda
            simp only [Bool.and_eq_true] at h1
            obtain ⟨g1, g2⟩ := h1
            unfold fileIs at g2
            split at g2
            · rename_i ccl cdd vs ccs ek
              split at g2
              · rename_i fl tf ev
                exact ⟨oc, od, n10, n11, n12, n14, osl, n2, cc, cda, vs, fl, tf, ccl, cl, cdd, cld, ccs, csl, rfl, g1, ek, ev, by rw [← hf]; exact g2, ec⟩
              · cases g2
            · cases g2
          · cases h1
        · cases h2
      · cases h2
    | _ => cases h
theorem errK_of {P : Program} {K : PySem.W.Frag} {mg : Str → Option Value} {x f : Str} {st : Stmt} (hf : file = P.main.file) (c : ErrC K x) (o : initO K (He.ma K (He.ga K x) "__init__") = initV st) (I : IsInit f st) (B : OE.Bds f) (nof : PySem.W.findIn K (.ref (He.ga K x)) f = some none)
    (opq : PySem.W.nsIn K cStatics "thirdparty.any" = some none) (spr : PySem.W.nsIn K mainGlobals "super" = some none) (g : mg x = some (.ref (He.ga K x))) (fok : (f == ("self" : Str)) = false ∧ (f == ("__class__" : Str)) = false ∧ (f == ("super" : Str)) = false ∧ (f == ("__debug__" : Str)) = false) :
    ErrK P K mg x (He.ga K x) (He.ma K (He.ga K x) "__init__") f := by
  obtain ⟨oc, od, doc, pm, an, ct, osl, qual, cc, cda, vs, fl, tf, ccl, cl, cdd, cld, ccs, csl, k1, k2, k3, k4, k5, k6⟩ := init_of (P := P) hf c o
  obtain ⟨nm, q, N, bs, sn, sub, ab, col, dd, m0, m1, m2, m3, m5, hC⟩ := shape_ok c.shape
  have rv : PySem.HandSPX.refsVE (.ref (He.ga K "AddressError") :: errT) = true := by
    show PySem.HandSPX.refsVE errT = true
    decide +kernel
  obtain ⟨p1, p2, tx, a, b, c', d, e0, e', g', h', i', j', i1, i2, i3, i4⟩ := I
  rw [i1, i2, i3] at k1
  exact ⟨⟨⟨nm, q, N, bs, _, sn, sub, ab, col, dd, m0, m1, m2, m3, m5, hC, rv⟩, c.sa, nof, c.iC, c.tC, c.sup, c.sub, c.exI, c.subV, opq, spr, ⟨oc, od, doc, pm, an, ct, osl, p1, p2, tx, a, b, c', d, e0, e', g', h', i', j', qual, cc, cda, vs, fl, tf, ccl, cl, cdd, cld, ccs, csl, k1, k2, i4, k3, k4, k5, k6⟩, fok⟩, B, g, c.keep, c.subB, c.ty⟩
/-! ### the classes that are made -/
theorem ownC_of {K : PySem.W.Frag} {C : Addr} (cl : Cls K C) (h : ownB K C = true) : OwnC K C := by
  unfold ownB at h
  simp only [Bool.and_eq_true, decide_eq_true_eq, List.all_eq_true] at h
  obtain ⟨h1, h2, h3, h4, h5⟩ := h
  exact ⟨cl, He.eqO_ok h1, He.eqO_ok h2, h3, h4, h5⟩
theorem landF_of {K : PySem.W.Frag} {C fE : Addr} (o : OwnC K C) (m : Meth K C "__eq__" fE) (h : landB K C = true) : LandF K C fE := by
  unfold landB at h
  simp only [Bool.and_eq_true, decide_eq_true_eq, List.all_eq_true] at h
  obtain ⟨h1, h2, h3, h4, h5, h6⟩ := h
  exact ⟨⟨o, m.at_, m.fn, h1, h2, h3⟩, He.eqO_ok h4, h5, h6⟩
/-! ### FORMS -/
theorem formsK_of {K : PySem.W.Frag} {w : World} {mg : Str → Option Value} {d : Addr} (g : mg "FORMS" = some (.ref d)) (h : He.dicW K d = some (He.keysIn w.params words)) (v : valB K d = true) : ∃ es n, FormsK K w mg d es n := by
  obtain ⟨es, n, D⟩ := He.dicW_ok h
  have hk : es.toList.map He.keyOf = He.keysIn w.params words := by
    have lw : (d == sysModules) = false := D.low
    have e : He.dicW K d = some (es.toList.map He.keyOf) := by
      unfold He.dicW
      rw [D.at_]
      show (match decide (("dict" : String) = "dict") && ((#[] : Array (Option Value)).isEmpty && !(d == sysModules)) with
        | true => some (es.toList.map He.keyOf)
        | false => none) = _
      rw [lw]
      rfl
    exact Option.some.inj (e.symm.trans h)
  have keys : ∀ e ∈ es.toList, ∃ k t, e.key = .str k t ∧ k ∈ words := fun e m => by
    have m1 : He.keyOf e ∈ He.keysIn w.params words := hk ▸ List.mem_map.mpr ⟨e, m, rfl⟩
    obtain ⟨k, mk, ek⟩ := List.mem_map.mp m1
    unfold He.keyOf at ek
    split at ek
    · rename_i x t q
      have z := Option.some.inj ek
      have z1 : k = x := congrArg (fun y : Str × Int => y.1) z
      exact ⟨x, t, q, z1 ▸ mk⟩
    · cases ek
  refine ⟨es, n, g, D, fun z => ?_⟩
  by_cases hz : z ∈ words
  · have v1 := List.all_eq_true.mp v z hz
    split at v1
    · rename_i f t f' e1 e2
      have e3 : f = f' := of_decide_eq_true v1
      rw [e2]
      exact ⟨_, e1, t, by rw [e3]⟩
    · cases v1
  · have f0 : formOf z = none := List.lookup_eq_none_iff.mpr fun p mp => by
      have m : p.1 ∈ words := (show formTab.map (·.1) = words from rfl) ▸ List.mem_map.mpr ⟨p, mp, rfl⟩
      exact bne_iff_ne.mpr fun (y : z = p.1) => hz (by rw [y]; exact m)
    rw [f0]
    refine ⟨none, ?_, rfl⟩
    unfold PySem.W.nsIn
    rw [D.at_]
    have n1 : es.toList.find? (fun e => e.key.isStr z) = none := List.find?_eq_none.mpr fun e m y => by
      obtain ⟨k, t, ek, mk⟩ := keys e m
      rw [ek, PySem.W.isStr_of] at y
      obtain ⟨t', e2⟩ := Value.isStrOf_shape y
      cases e2
      exact hz mk
    have n2 : (es.toList.any fun e => e.refKey) = false := List.any_eq_false.mpr fun e m y => by
      obtain ⟨k, t, ek, mk⟩ := keys e m
      unfold DictEntry.refKey at y
      rw [ek] at y
      cases y
    dsimp only
    rw [n1, n2]
    rfl
end OB
namespace OB
open PySem PySem.Spec PyProof.Rows L2 LamX
/-! ### the law called by the outermost caller: the script and the tables are ours -/
def tab0 : Obj := { cls := .none, data := .fields #[] }
theorem data_ne {o o' : Obj} (h : o.data ≠ o'.data) : o ≠ o' := fun z => h (congrArg Obj.data z)
theorem law_at {P : Program} {w : World} {K : PySem.W.Frag} {mg mb : Str → Option Value} {fa a : Addr} {cs : List (Addr × Addr)} {s₁ : Shared} {vs : List Value} {ns : List Int}
    (KX : K.In s₁.heap) (nG : s₁.heap.Ns mainGlobals mg) (nB : s₁.heap.Ns builtinsNs mb) (hB : ∀ x : Str, x ≠ "__name__" → mb x = bootBuiltins x) (lim : s₁.heap.NoLimit) (ge : s₁.gens = #[])
    (tT : ∀ p ∈ cs, s₁.heap.get? p.2 = some tab0) (tK : ∀ p ∈ cs, K.lookup p.2 = none) (tC : ∀ p ∈ cs, PySem.W.CodeHd s₁.heap p.1 p.2)
    (bm : ∃ (m : Addr) (ob : Obj), mg "__builtins__" = some (.ref m) ∧ m ≠ builtinsNs ∧ s₁.heap.get? m = some ob ∧ ob.cls = .type "module" ∧ ob.dict = some builtinsNs ∧ ob.data = .plain)
    (ga : s₁.heap.get? a = some { cls := .type "list", data := .seq vs.toArray }) (iv : IntsAre vs ns) (hl : ns.length ≤ sizeLine)
    (run : ∀ (base : Heap) (H : Hp), K.In base → base.Ns mainGlobals mg → (∀ p ∈ cs, TabB base mg p.1 p.2) → (∀ p ∈ cs, H p.2 = some (.tbl #[])) → SqL K H a (ns.map V.int) → Env0 P w K mg base callerA [] s₁ H →
      codeAny (model P w) callerA (.call (.ref fa) ⟨[.ref a], []⟩) (CR CX0 [] P w H s₁ (fun v _ => v = .bl true) (fun _ _ _ => False)) s₁) :
    codeAny (model P w) callerA (.call (.ref fa) ⟨[.ref a], []⟩) (fun r s' => r = .ok (.ret (.bool true)) ∧ OldK s₁.heap s'.heap ∧ s'.os = s₁.os ∧ AllBare s'.gens) s₁ := by
  have rv := vals_ints iv
  have lv := iv.length
  -- what is hidden
  let own : Prop := K.lookup a = none
  let tb := cs.map (·.2)
  have inT : ∀ p ∈ cs, p.2 ∈ tb := fun p m => List.mem_map.mpr ⟨p, m, rfl⟩
  have ofT : ∀ b ∈ tb, s₁.heap.get? b = some tab0 ∧ K.lookup b = none := fun b m => by
    obtain ⟨p, mp, e⟩ := List.mem_map.mp m
    rw [← e]
    exact ⟨tT p mp, tK p mp⟩
  have aT : a ∉ tb := fun z => by
    have q := (ofT a z).1
    rw [ga] at q
    exact data_ne (fun y => by cases y) (Option.some.inj q)
  have main : ∀ (hid : List Addr) (H : Hp), (∀ b, H b ≠ none ↔ b ∈ hid) → (∀ b ∈ hid, b = a ∨ b ∈ tb) → (∀ b ∈ hid, K.lookup b = none) → (∀ p ∈ cs, H p.2 = some (.tbl #[])) → (∀ b, H b = none ∨ (b ∈ tb ∧ H b = some (.tbl #[])) ∨ (b ∉ tb ∧ ∃ o xs, H b = some (.frz o (.lst xs)))) →
      SqL K H a (ns.map V.int) → HOk P w H s₁.heap → codeAny (model P w) callerA (.call (.ref fa) ⟨[.ref a], []⟩) (fun r s' => r = .ok (.ret (.bool true)) ∧ OldK s₁.heap s'.heap ∧ s'.os = s₁.os ∧ AllBare s'.gens) s₁ := by
    intro hid H hH hab hKn hTb hAll hS hok
    have get : ∀ {b : Addr} {o : Obj}, s₁.heap.get? b = some o → b ∉ hid → (PySem.W.hideAll s₁.heap hid).get? b = some o := fun e n => PySem.W.hideAll_get _ e n
    have other : ∀ {b : Addr} {o : Obj}, s₁.heap.get? b = some o → (∀ x n, o.data ≠ .seq x n) → o.data ≠ .fields #[] → b ∉ hid := fun {b o} e n1 n2 m => by
      rcases hab b m with z | z
      · rw [z, ga] at e
        cases e
        exact n1 _ _ rfl
      · rw [(ofT b z).1] at e
        cases e
        exact n2 rfl
    have nsH : ∀ {b : Addr} {m : Str → Option Value}, s₁.heap.Ns b m → (PySem.W.hideAll s₁.heap hid).Ns b m := fun {b m} ⟨o, es, ep, e, d, r⟩ => ⟨o, es, ep, get e (other e (fun x n z => by rw [d] at z; cases z) (fun z => by rw [d] at z; cases z)), d, r⟩
    have KB : K.In (PySem.W.hideAll s₁.heap hid) := fun b o e => get (KX b o e) fun m => by
      rw [hKn b m] at e
      cases e
    have M : L2.Mod K mg (PySem.W.hideAll s₁.heap hid) := ⟨KB, nsH nG, ⟨mb, nsH nB, hB⟩, let ⟨mc, h1, h2⟩ := lim; ⟨mc, nsH h1, h2⟩⟩
    have TB : ∀ p ∈ cs, TabB (PySem.W.hideAll s₁.heap hid) mg p.1 p.2 := fun p mp => by
      refine ⟨?_, ?_, fun z => ?_⟩
      · obtain ⟨o, us, f1, f2, f3, f4, f5, f6, f7, e1, r1, r2, r3, rest⟩ := tC p mp
        refine ⟨o, us, f1, f2, f3, f4, f5, f6, f7, get e1 (other e1 (fun x n z => ?_) fun z => ?_), r1, r2, r3, rest⟩
        · rw [r2] at z
          cases z
        · rw [r2] at z
          have y := Data.fields.inj z
          rw [y] at r3
          simp at r3
      · obtain ⟨m, ob, c1, c2, c3, c4, c5, c6⟩ := bm
        have n1 : m ≠ mainGlobals := fun q => by
          obtain ⟨o, es, ep, e, d, _⟩ := nG
          rw [q, e] at c3
          cases c3
          rw [d] at c6
          cases c6
        have n2 : m ≠ p.2 := fun q => by
          rw [q, tT p mp] at c3
          cases c3
          cases c6
        exact ⟨m, ob, c1, c2, n1, n2, get c3 (other c3 (fun x n z => by rw [c6] at z; cases z) (fun z => by rw [c6] at z; cases z)), c4, c5, c6⟩
      · obtain ⟨o, es, ep, e, d, _⟩ := nG
        rw [z, tT p mp] at e
        cases e
        cases d
    have hN : ∀ b o, (PySem.W.hideAll s₁.heap hid).get? b = some o → s₁.heap.get? b = some o ∧ H b = none := fun b o e => by
      refine ⟨PySem.W.of_hideAll _ e, ?_⟩
      cases q : H b with
      | none => rfl
      | some u =>
        have m : b ∈ hid := (hH b).mp (by rw [q]; simp)
        rw [PySem.W.hideAll_none _ m] at e
        cases e
    have e0 : Env0 P w K mg (PySem.W.hideAll s₁.heap hid) callerA [] s₁ H := ⟨rfl, M, hN, Nat.le_of_eq (PySem.W.hideAll_size _ _), trivial, fun b hb => absurd (show b ∈ ([] : List Addr) from hb) (by simp), hok, .of_eq ge⟩
    refine codeAny_mono (run _ H KB (nsH nG) TB hTb hS e0) fun r s' z => ?_
    cases r with
    | error e => exact (show False from z).elim
    | ok fl =>
      cases fl with
      | next => exact False.elim z
      | brk => exact False.elim z
      | cont => exact False.elim z
      | ret u =>
        obtain ⟨v, H', os, bare, un, hok', rr, q⟩ := z
        have q' : v = .bl true := q
        subst q'
        obtain rfl : u = Value.bool true := rr
        have stays : ∀ b o, b ∉ tb → s₁.heap.get? b = some o → s'.heap.get? b = some o := fun b o nb e => by
          rcases hAll b with y | y | ⟨_, ob, xs, y⟩
          · exact un.keep b o e y (fun z => absurd (show b ∈ ([] : List Addr) from z) (by simp)) (by simp)
          · exact absurd y.1 nb
          · obtain ⟨d1, _⟩ := hok b _ y
            obtain ⟨d2, _⟩ := hok' b _ (un.frzs b ob _ y)
            rw [e] at d1
            cases d1
            exact d2
        have grow : ∀ p ∈ cs, ∃ more : Array Value, s'.heap.get? p.2 = some { cls := .none, data := .fields more } := fun p mp => by
          obtain ⟨more, y⟩ := un.tbls p.2 #[] (hTb p mp)
          exact ⟨_, hok' p.2 _ y⟩
        refine ⟨rfl, ⟨fun b o e => ?_, fun b o e => ?_⟩, os, bare⟩
        · by_cases hb : b ∈ tb
          · obtain ⟨p, mp, ep⟩ := List.mem_map.mp hb
            obtain ⟨more, gm⟩ := grow p mp
            rw [← ep] at e ⊢
            rw [tT p mp] at e
            cases e
            exact .inr (.inl ⟨((tC p mp).tab (tT p mp)).isCodeTable, rfl, #[], more, rfl, by rw [Array.empty_append]; exact gm⟩)
          · exact .inl (stays b o hb e)
        · by_cases hb : b ∈ tb
          · obtain ⟨p, mp, ep⟩ := List.mem_map.mp hb
            obtain ⟨more, gm⟩ := grow p mp
            rw [← ep]
            exact ⟨_, gm⟩
          · exact ⟨o, stays b o hb e⟩
  cases hk : K.lookup a with
  | some o =>
    have e := KX a o hk
    rw [ga] at e
    cases e
    refine main tb (fun b => if b ∈ tb then some (.tbl #[]) else none) (fun b => ?_) (fun b m => .inr m) (fun b m => (ofT b m).2) (fun p mp => if_pos (inT p mp)) (fun b => ?_) (.inr ⟨_, vs.toArray, _, hk, rfl, rfl, rfl, by rw [List.size_toArray, lv]; exact hl, by simpa using rv⟩) (fun b u z => ?_)
    · by_cases hb : b ∈ tb <;> simp [hb]
    · by_cases hb : b ∈ tb
      · exact .inr (.inl ⟨hb, if_pos hb⟩)
      · exact .inl (if_neg hb)
    · by_cases hb : b ∈ tb
      · have y := (if_pos hb).symm.trans z
        cases y
        exact (ofT b hb).1
      · have y := (if_neg hb).symm.trans z
        cases y
  | none =>
    refine main (a :: tb) (fun b => if b = a then some (.frz { cls := .type "list", data := .seq vs.toArray } (.lst (ns.map V.int))) else if b ∈ tb then some (.tbl #[]) else none) (fun b => ?_) (fun b m => ?_) (fun b m => ?_) (fun p mp => ?_) (fun b => ?_) (.inl (.inr ⟨_, if_pos rfl⟩)) (fun b u z => ?_)
    · by_cases h1 : b = a
      · simp [h1]
      · by_cases h2 : b ∈ tb <;> simp [h1, h2]
    · rcases List.mem_cons.mp m with y | y
      · exact .inl y
      · exact .inr y
    · rcases List.mem_cons.mp m with y | y
      · rw [y]
        exact hk
      · exact (ofT b y).2
    · have ne : p.2 ≠ a := fun y => aT (by rw [← y]; exact inT p mp)
      show (if p.2 = a then _ else _) = _
      rw [if_neg ne, if_pos (inT p mp)]
    · by_cases h1 : b = a
      · exact .inr (.inr ⟨by rw [h1]; exact aT, _, _, if_pos h1⟩)
      · by_cases h2 : b ∈ tb
        · exact .inr (.inl ⟨h2, (if_neg h1).trans (if_pos h2)⟩)
        · exact .inl ((if_neg h1).trans (if_neg h2))
    · by_cases h1 : b = a
      · have y := (if_pos h1).symm.trans z
        cases y
        rw [h1]
        exact ⟨ga, by rw [List.length_map]; exact hl, vs, _, rv, ga⟩
      · have y1 := (if_neg h1).symm.trans z
        by_cases h2 : b ∈ tb
        · have y := (if_pos h2).symm.trans y1
          cases y
          exact (ofT b h2).1
        · have y := (if_neg h2).symm.trans y1
          cases y
end OB
namespace OB
open PySem PySem.Spec PyProof.Rows L2 LamX
/-! ### all that the law rests on, as the looks say it -/
section
variable {P : Program} {w : World} {h : Heap} {K : PySem.W.Frag} {mg : Str → Option Value} {base : Heap}
theorem SaysK.me (s : SaysK w h K) {c m q : Str} {st : Stmt} (mm : dMe c m q st ∈ mes) (km : He.Fa.meth c m ∈ fa1) : ∃ fd, Fun K m q st (He.ma K (He.ga K c) m) fd := by
  obtain ⟨oc, od, osl, kV, doc, pm, an, cdv, ct, lk, hc⟩ := s.def_ (d := dMe c m q st) (List.mem_append_right _ mm)
  exact ⟨_, ⟨oc, od, kV, doc, pm, an, cdv, ct, osl, rfl, lk, hc⟩, (He.meth_ok (s.fact (mem_fa1 km))).kp⟩
theorem SaysK.fnC (s : SaysK w h K) {x : Str} {i : Nat} (m : (x, i) ∈ fns) : ∃ fd, FunC K x x (top i) (He.ga K x) fd (He.cT K (x, none)).1 := by
  obtain ⟨oc, od, osl, kV, doc, pm, an, cdv, ct, lk, hc⟩ := s.def_ (d := dFn (x, i)) (List.mem_append_left _ (List.mem_map.mpr ⟨_, m, rfl⟩))
  obtain ⟨c, rfl⟩ := He.codeIn_ref hc
  have e : (He.cT K (x, none)).1 = c := He.codeOf_eq (p := (x, none)) lk rfl
  rw [e]
  exact ⟨_, ⟨oc, od, kV, doc, pm, an, ct, osl, rfl, lk, hc⟩, s.fact (mem_fa2 m)⟩
theorem cls_at {K : PySem.W.Frag} {a : Addr} (c : clsIs K a = true) : ∃ o, K.lookup a = some o ∧ o.cls = .type "function" := by
  unfold clsIs at c
  split at c
  · rename_i ty d dt sl e
    have e1 : ty = "function" := of_decide_eq_true c
    exact ⟨_, e, by rw [e1]⟩
  · cases c
theorem has_at {K : PySem.W.Frag} {a : Addr} (c : hasB K a = true) : ∃ o, K.lookup a = some o := by
  unfold hasB at c
  split at c
  · rename_i o e
    exact ⟨o, e⟩
  · cases c
structure ExD (K : PySem.W.Frag) : Prop where
  oL : ownB K (He.ga K "Land") = true
  oH : ownB K (He.ga K "History") = true
  land : landB K (He.ga K "Land") = true
  eA : ErrC K "BadAddresses"
  eM : ErrC K "BadMost"
  opq : PySem.W.nsIn K cStatics "thirdparty.any" = some none
  val : valB K (He.ga K "FORMS") = true
  sys : ∃ o, K.lookup sysModules = some o
  met : ∃ o, K.lookup (He.ga K "_law_met") = some o ∧ o.cls = .type "function"
  bent : ∃ o, K.lookup (He.ga K "_law_bent") = some o ∧ o.cls = .type "function"
theorem SaysK.ex (s : SaysK w h K) : ExD K := by
  have e := s.D
  unfold exB at e
  simp only [Bool.and_eq_true] at e
  obtain ⟨e1, e2, e3, e4, e5, e6, e7, e8, e9, e10⟩ := e
  exact ⟨e1, e2, e3, errC_of e4, errC_of e5, He.eqO_ok e6, e7, has_at e8, cls_at e9, cls_at e10⟩
theorem SaysK.init (s : SaysK w h K) : initO K (He.ma K (He.ga K "BadAddresses") "__init__") = initV (inClass (top 25) 0) ∧ initO K (He.ma K (He.ga K "BadMost") "__init__") = initV (inClass (top 26) 0) := by
  have e : (inits.map fun p => initO K (He.ma K (He.ga K p.1) "__init__")) = inits.map fun p => initV p.2 := congrArg (fun z : LC => z.2) s.C
  have e1 : [initO K (He.ma K (He.ga K "BadAddresses") "__init__"), initO K (He.ma K (He.ga K "BadMost") "__init__")] = [initV (inClass (top 25) 0), initV (inClass (top 26) 0)] := e
  injection e1 with h1 h2
  injection h2 with h2 _
  exact ⟨h1, h2⟩
theorem SaysK.dic (s : SaysK w h K) : He.dicW K (He.ga K "FORMS") = some (He.keysIn w.params words) := by
  have e : [He.dicW K (He.ga K "FORMS")] = [some (He.keysIn w.params words)] := congrArg (fun z : LC => z.1) s.C
  injection e
/-- the class of lands -/
theorem landT_of (hP : file = P.main.file) (htop : (P.main.scope.names.lookup ("super" : Str)).isSome = false) (s : SaysK w h K) (X : K.In base) (G : base.Ns mainGlobals mg) (T : TxtC mg) :
    ∃ fdI fdE fdA fdM, LandT P w K mg base (He.ga K "Land") (He.ga K "BadAddresses") (He.ga K "BadMost") (He.ma K (He.ga K "Land") "__init__") (He.ma K (He.ga K "Land") "__eq__") (He.ma K (He.ga K "Land") "addresses") (He.ma K (He.ga K "Land") "most") fdI fdE fdA fdM := by
  have D := s.ex
  obtain ⟨i1, i2⟩ := s.init
  obtain ⟨fdI, FI⟩ := s.me (c := "Land") (m := "__init__") (q := "Land.__init__") (st := inClass (top 35) 0) (by simp [mes]) (by simp [fa1])
  obtain ⟨fdE, FE⟩ := s.me (c := "Land") (m := "__eq__") (q := "Land.__eq__") (st := inClass (top 35) 1) (by simp [mes]) (by simp [fa1])
  obtain ⟨fdA, FA⟩ := s.me (c := "Land") (m := "addresses") (q := "Land.addresses") (st := inClass (top 35) 2) (by simp [mes]) (by simp [fa1])
  obtain ⟨fdM, FM⟩ := s.me (c := "Land") (m := "most") (q := "Land.most") (st := inClass (top 35) 3) (by simp [mes]) (by simp [fa1])
  obtain ⟨gT, fdT, FT⟩ := s.fn X G (x := "told_names") (i := 34) (by simp [fns, fns0])
  obtain ⟨gL, fdL, FL⟩ := s.fn X G (x := "is_list") (i := 8) (by simp [fns, fns0])
  obtain ⟨gN, fdN, FN⟩ := s.fn X G (x := "is_name") (i := 9) (by simp [fns, fns0])
  obtain ⟨gO, fdO, FO⟩ := s.fn X G (x := "is_from_one") (i := 7) (by simp [fns, fns0])
  obtain ⟨gY, fdY, FY⟩ := s.fn X G (x := "is_integer") (i := 5) (by simp [fns, fns0])
  have gC : mg "Land" = some (.ref (He.ga K "Land")) := He.glo_ok X G (s.fact (mem_fa1 (by simp [fa1])))
  have gA : mg "BadAddresses" = some (.ref (He.ga K "BadAddresses")) := He.glo_ok X G (s.fact (mem_fa1 (by simp [fa1])))
  have gM : mg "BadMost" = some (.ref (He.ga K "BadMost")) := He.glo_ok X G (s.fact (mem_fa1 (by simp [fa1])))
  have spr : PySem.W.nsIn K mainGlobals "super" = some none := He.eqO_ok (s.fact (mem_free (by simp [frees])))
  have LC : LandC K (He.ga K "Land") := ⟨He.cls_ok (s.fact (mem_fa1 (by simp [fa1]))), He.noat_ok (s.fact (mem_fa1 (by simp [fa1]))), He.noat_ok (s.fact (mem_fa1 (by simp [fa1])))⟩
  have own := ownC_of LC.cl D.oL
  have mE : Meth K (He.ga K "Land") "__eq__" (He.ma K (He.ga K "Land") "__eq__") := He.meth_ok (s.fact (mem_fa1 (by simp [fa1])))
  have EA : ErrK P K mg "BadAddresses" (He.ga K "BadAddresses") (He.ma K (He.ga K "BadAddresses") "__init__") "index" := errK_of hP D.eA i1 iniA bdsI (He.noat_ok (s.fact (mem_fa1 (by simp [fa1])))) D.opq spr gA ⟨rfl, rfl, rfl, rfl⟩
  have EM : ErrK P K mg "BadMost" (He.ga K "BadMost") (He.ma K (He.ga K "BadMost") "__init__") "most" := errK_of hP D.eM i2 iniM bdsM (He.noat_ok (s.fact (mem_fa1 (by simp [fa1])))) D.opq spr gM ⟨rfl, rfl, rfl, rfl⟩
  have TN : TxtN mg := ⟨He.str_ok X G (s.fact (mem_fa1 (by simp [fa1]))), He.str_ok X G (s.fact (mem_fa1 (by simp [fa1]))), He.int_ok X G (s.fact (mem_fa1 (by simp [fa1])))⟩
  have TL : TxtL mg := ⟨s.free X G (by simp [frees]), He.int_ok X G (s.fact (mem_fa1 (by simp [fa1])))⟩
  have GT : FnOk P w K mg base (L2.CX P w) 3 _ fdT ["addresses"] (spNames K (He.ga K "BadAddresses")) := ok_names FT FL gL FN gN T TN TL EA htop
  have GO : FnOk P w K mg base CX0 2 _ fdO ["thing"] (spAsk K (numFrom 1)) := ok_isOne FO FY gY T
  have bI : Binds K fdI ["self", "addresses", "most"] [] := FI.binds fun _ _ _ _ _ _ us hl => match us, hl with | [_, _, _], _ => rfl
  refine ⟨fdI, fdE, fdA, fdM, He.mkr_ok (s.fact (mem_fa1 (by simp [fa1]))), gC, LC, landF_of own mE D.land, ok_landInit FI GT gT FT.kp (FT.binds fun _ _ _ _ _ _ us hl => match us, hl with | [_], _ => rfl) GO gO FO.kp (FO.binds fun _ _ _ _ _ _ us hl => match us, hl with | [_], _ => rfl) LC EM htop, bI, ?_,
    ok_landEq FE LC T gC, FE.binds fun _ _ _ _ _ _ us hl => match us, hl with | [_, _], _ => rfl, He.meth_ok (s.fact (mem_fa1 (by simp [fa1]))), ok_landAdr FA LC T, FA.binds fun _ _ _ _ _ _ us hl => match us, hl with | [_], _ => rfl, He.meth_ok (s.fact (mem_fa1 (by simp [fa1]))), ok_landMost FM LC, FM.binds fun _ _ _ _ _ _ us hl => match us, hl with | [_], _ => rfl⟩
  obtain ⟨oc, od, kV, doc, pm, an, cdv, ct, osl, rfl, lk, hcd⟩ := FI.ex
  refine ⟨fun us ws => match us, ws with
    | [o], [m, a] => [o, a, m]
    | _, _ => [], fun s us ws X l1 l2 => ?_, fun r1 r2 => ?_⟩
  · match us, ws, l1, l2 with
    | [o], [m, a], _, _ => exact .of_eq rfl
  · cases r1 with
    | nil => exact .nil
    | cons a as =>
      cases as with
      | cons _ _ => exact .nil
      | nil =>
        cases r2 with
        | nil => exact .nil
        | cons b bs =>
          cases bs with
          | nil => exact .nil
          | cons c cs =>
            cases cs with
            | nil => exact .cons a (.cons c (.cons b .nil))
            | cons _ _ => exact .nil
end
end OB
namespace OB
open PySem PySem.Spec PyProof.Rows L2 LamX
theorem room9 : Room 9 callerA := ⟨rfl, by decide, by decide⟩
section
variable {P : Program} {w : World} {h : Heap} {K : PySem.W.Frag} {mg : Str → Option Value} {base : Heap}
theorem FunC.binds {x qual : Str} {st : Stmt} {f c : Addr} {fd : FuncData} {ps : List Str} (F : FunC K x qual st f fd c)
    (h : ∀ (kV doc pm : Value) (an : Option Addr) (ct : Value) (us : List Value), us.length = ps.length → bindArgs (PySem.W.fnOf x qual (defArgs st) (defBody st) (defScope st) .none kV doc pm an (.ref c) ct) ⟨us, []⟩ = pure (ps.zip us)) : Binds K fd ps [] := by
  obtain ⟨oc, od, kV, doc, pm, an, ct, osl, rfl, lk, hcd⟩ := F.ex
  exact .all (h kV doc pm an ct)
theorem kwDeed {fd : FuncData} {f : Addr} (F : Fun K "is_deed" "is_deed" sIsDeed f fd) : ∃ g, KBn K fd ["land", "thing"] 0 ["thing", "land"] g gDeed := by
  obtain ⟨oc, od, kV, doc, pm, an, cdv, ct, osl, rfl, lk, hcd⟩ := F.ex
  refine ⟨fun us ws => match us, ws with
    | [], [t, l] => [l, t]
    | _, _ => [], fun s us ws X l1 l2 => ?_, fun r1 r2 => ?_⟩
  · match us, ws, l1, l2 with
    | [], [t, l], _, _ => exact .of_eq rfl
  · cases r1 with
    | cons _ _ => exact .nil
    | nil =>
      cases r2 with
      | nil => exact .nil
      | cons b bs =>
        cases bs with
        | nil => exact .nil
        | cons c cs =>
          cases cs with
          | nil => exact .cons c (.cons b .nil)
          | cons _ _ => exact .nil
/-- the law's body at the outermost caller -/
theorem law_run (hP : file = P.main.file) (htop : (P.main.scope.names.lookup ("super" : Str)).isSome = false) (s : SaysK w h K) (X : K.In base) (G : base.Ns mainGlobals mg) (TB : TabB base mg (He.cT K ("_law_refused_right", none)).1 (He.cT K ("_law_refused_right", none)).2)
    {fa a : Addr} {cdv : Value} {s₁ : Shared} {H : Hp} {ns : List Int} (hS : SqL K H a (ns.map V.int)) (tabs : Tabs [((He.cT K ("_law_refused_right", none)).2, qLam)] H) (hr : Room 8 (cxLaw P w K mg base fa cdv s₁ H).A) :
    ∃ t, PSs (cxLaw P w K mg base fa cdv s₁ H) (defBody sLaw) t ∧ t { nx := fun _ _ => (V.non = .bl true), rt := fun v _ => v = .bl true } (L2.start Nl [.ref a]) H := by
  have D := s.ex
  have fr : ∀ {x : Str}, x ∈ frees → mg x = none := fun m => s.free X G m
  have T : TxtC mg := ⟨fr (by simp [frees]), fr (by simp [frees]), fr (by simp [frees]), fr (by simp [frees]), fr (by simp [frees]), fr (by simp [frees]), fr (by simp [frees]), fr (by simp [frees])⟩
  have TD : TxtD mg := ⟨fr (by simp [frees]), fr (by simp [frees]), fr (by simp [frees]), fr (by simp [frees]), fr (by simp [frees]), fr (by simp [frees])⟩
  have TF : TxtF mg := ⟨fr (by simp [frees]), fr (by simp [frees]), fr (by simp [frees]), fr (by simp [frees])⟩
  have en : mg "enumerate" = none := fr (by simp [frees])
  have rp : mg "repr" = none := fr (by simp [frees])
  obtain ⟨fdI, fdE, fdA, fdM, L⟩ := landT_of (P := P) (w := w) hP htop s X G T
  obtain ⟨gList, fdList, FList⟩ := s.fn X G (x := "is_list") (i := 8) (by simp [fns, fns0])
  obtain ⟨gInt, fdInt, FInt⟩ := s.fn X G (x := "is_integer") (i := 5) (by simp [fns, fns0])
  obtain ⟨gNum, fdNum, FNum⟩ := s.fn X G (x := "is_number") (i := 6) (by simp [fns, fns0])
  obtain ⟨gOne, fdOne, FOne⟩ := s.fn X G (x := "is_from_one") (i := 7) (by simp [fns, fns0])
  obtain ⟨gWord, fdWord, FWord⟩ := s.fn X G (x := "is_word_of") (i := 10) (by simp [fns, fns0])
  obtain ⟨gPart, fdPart, FPart⟩ := s.fn X G (x := "is_part") (i := 19) (by simp [fns, fns0])
  obtain ⟨gTold, fdTold, FTold⟩ := s.fn X G (x := "told_deed") (i := 20) (by simp [fns, fns0])
  obtain ⟨gDeedF, fdDeed, FDeed⟩ := s.fn X G (x := "is_deed") (i := 37) (by simp [fns, fns0])
  obtain ⟨gEmp, fdEmp, FEmp⟩ := s.fn X G (x := "empty_scene") (i := 40) (by simp [fns, fns0])
  obtain ⟨gCkL, fdCkL, FCkL⟩ := s.fn X G (x := "check_land") (i := 36) (by simp [fns, fns0])
  obtain ⟨gCell, fdCell, FCell⟩ := s.fn X G (x := "_law_cell") (i := 46) (by simp [fns, fns1])
  obtain ⟨gSrc, fdSrc, FSrc⟩ := s.fn X G (x := "_law_source") (i := 47) (by simp [fns, fns1])
  obtain ⟨gDraw, fdDraw, FDraw⟩ := s.fn X G (x := "_law_draw") (i := 48) (by simp [fns, fns1])
  obtain ⟨gPick, fdPick, FPick⟩ := s.fn X G (x := "_law_pick") (i := 49) (by simp [fns, fns1])
  obtain ⟨gMix, fdMix, FMix⟩ := s.fn X G (x := "_law_mixed") (i := 50) (by simp [fns, fns1])
  obtain ⟨gSame, fdSame, FSame⟩ := s.fn X G (x := "_law_same") (i := 51) (by simp [fns, fns1])
  obtain ⟨gLoose, fdLoose, FLoose⟩ := s.fn X G (x := "_law_loose") (i := 52) (by simp [fns, fns1])
  obtain ⟨gON, fdON, FON⟩ := s.fn X G (x := "_law_o_names") (i := 53) (by simp [fns, fns1])
  obtain ⟨gSA, fdSA, FSA⟩ := s.fn X G (x := "_law_s_any") (i := 54) (by simp [fns, fns1])
  obtain ⟨gMet, fdMet, FMet⟩ := s.fn X G (x := "_law_met") (i := 55) (by simp [fns, fns1])
  obtain ⟨gLN, fdLN, FLN⟩ := s.fn X G (x := "_law_is_name") (i := 56) (by simp [fns, fns1])
  obtain ⟨gLP, fdLP, FLP⟩ := s.fn X G (x := "_law_is_part") (i := 57) (by simp [fns, fns1])
  obtain ⟨gLD, fdLD, FLD⟩ := s.fn X G (x := "_law_is_deed") (i := 58) (by simp [fns, fns1])
  obtain ⟨gOdd, fdOdd, FOdd⟩ := s.fn X G (x := "_law_first_odd") (i := 59) (by simp [fns, fns1])
  obtain ⟨gLR, fdLR, FLR⟩ := s.fn X G (x := "_law_lands_right") (i := 60) (by simp [fns, fns1])
  obtain ⟨gRR, fdRR0, FRR0⟩ := s.fn X G (x := "_law_refused_right") (i := 61) (by simp [fns, fns1])
  obtain ⟨gBent, fdBent, FBent⟩ := s.fn X G (x := "_law_bent") (i := 62) (by simp [fns, fns1])
  obtain ⟨gDR, fdDR, FDR⟩ := s.fn X G (x := "_law_deeds_right") (i := 63) (by simp [fns, fns1])
  obtain ⟨fdRR, FRR⟩ := s.fnC (x := "_law_refused_right") (i := 61) (by simp [fns, fns1])
  have bOne := FOne.binds (ps := ["thing"]) (fun _ _ _ _ _ _ us hl => match us, hl with | [_], _ => rfl)
  have bNum := FNum.binds (ps := ["thing"]) (fun _ _ _ _ _ _ us hl => match us, hl with | [_], _ => rfl)
  have bList := FList.binds (ps := ["thing"]) (fun _ _ _ _ _ _ us hl => match us, hl with | [_], _ => rfl)
  have bPart := FPart.binds (ps := ["names", "kind", "part"]) (fun _ _ _ _ _ _ us hl => match us, hl with | [_, _, _], _ => rfl)
  have bTold := FTold.binds (ps := ["names", "thing"]) (fun _ _ _ _ _ _ us hl => match us, hl with | [_, _], _ => rfl)
  have bDeed := FDeed.binds (ps := ["land", "thing"]) (fun _ _ _ _ _ _ us hl => match us, hl with | [_, _], _ => rfl)
  have bEmp := FEmp.binds (ps := ["names"]) (fun _ _ _ _ _ _ us hl => match us, hl with | [_], _ => rfl)
  have bCkL := FCkL.binds (ps := ["thing"]) (fun _ _ _ _ _ _ us hl => match us, hl with | [_], _ => rfl)
  have bSrc := FSrc.binds (ps := ["script", "k"]) (fun _ _ _ _ _ _ us hl => match us, hl with | [_, _], _ => rfl)
  have bDraw := FDraw.binds (ps := ["source", "many"]) (fun _ _ _ _ _ _ us hl => match us, hl with | [_, _], _ => rfl)
  have bPick := FPick.binds (ps := ["source", "some"]) (fun _ _ _ _ _ _ us hl => match us, hl with | [_, _], _ => rfl)
  have bMix := FMix.binds (ps := ["source", "some"]) (fun _ _ _ _ _ _ us hl => match us, hl with | [_, _], _ => rfl)
  have bSame := FSame.binds (ps := ["found", "wanted"]) (fun _ _ _ _ _ _ us hl => match us, hl with | [_, _], _ => rfl)
  have bLoose := FLoose.binds (ps := ["source", "thing"]) (fun _ _ _ _ _ _ us hl => match us, hl with | [_, _], _ => rfl)
  have bON := FON.binds (ps := ["source", "many"]) (fun _ _ _ _ _ _ us hl => match us, hl with | [_, _], _ => rfl)
  have bSA := FSA.binds (ps := ["source", "names"]) (fun _ _ _ _ _ _ us hl => match us, hl with | [_, _], _ => rfl)
  have bMet := FMet.binds (ps := ["ask"]) (fun _ _ _ _ _ _ us hl => match us, hl with | [_], _ => rfl)
  have bLD := FLD.binds (ps := ["names", "thing"]) (fun _ _ _ _ _ _ us hl => match us, hl with | [_, _], _ => rfl)
  have bOdd := FOdd.binds (ps := ["names"]) (fun _ _ _ _ _ _ us hl => match us, hl with | [_], _ => rfl)
  have bLR := FLR.binds (ps := ["source", "names", "most"]) (fun _ _ _ _ _ _ us hl => match us, hl with | [_, _, _], _ => rfl)
  have bRR := FRR.binds (ps := ["source", "names", "most"]) fun _ _ _ _ _ us hl => match us, hl with | [_, _, _], _ => rfl
  have bBent := FBent.binds (ps := ["source", "names", "deed"]) (fun _ _ _ _ _ _ us hl => match us, hl with | [_, _, _], _ => rfl)
  have bDR := FDR.binds (ps := ["source", "names", "most"]) (fun _ _ _ _ _ _ us hl => match us, hl with | [_, _, _], _ => rfl)
  have GDraw : FnOk P w K mg base CX0 1 _ fdDraw ["source", "many"] spDraw := ok_draw FDraw TD
  have GPick : FnOk P w K mg base CX0 2 _ fdPick ["source", "some"] (spPick K) := ok_pick FPick TD FDraw gDraw
  have GMix : FnOk P w K mg base CX0 2 _ fdMix ["source", "some"] (spMixed K) := ok_mixed FMix TD FDraw gDraw
  have GSrc : FnOk P w K mg base CX0 2 _ fdSrc ["script", "k"] (spSource K) := ok_source FSrc TD FCell gCell
  have GON : FnOk P w K mg base CX0 3 _ fdON ["source", "many"] spONames := ok_oNames FON TD FDraw gDraw FMix gMix
  have GList : FnOk P w K mg base CX0 1 _ fdList ["thing"] (spAsk K fSeq) := ok_isList FList T
  have GOne : FnOk P w K mg base CX0 2 _ fdOne ["thing"] (spAsk K (numFrom 1)) := ok_isOne FOne FInt gInt T
  have GNum : FnOk P w K mg base CX0 2 _ fdNum ["thing"] (spAsk K (numFrom 0)) := ok_isNum FNum FInt gInt T
  have GPart : FnOk P w K mg base CX0 3 _ fdPart ["names", "kind", "part"] (spPart K) := ok_isPart FPart FWord gWord T GNum gNum FNum.kp bNum GOne gOne FOne.kp bOne
  obtain ⟨es, n, FK⟩ := formsK_of (w := w) (He.glo_ok X G (s.fact (mem_fa1 (f := .glo "FORMS") (by simp [fa1])))) s.dic D.val
  have GTold : FnOk P w K mg base CX0 4 _ fdTold ["names", "thing"] (spTold K) := ok_told FTold FList gList T TF FK GPart gPart FPart.kp bPart
  have GDeed : FnOk P w K mg base CX0 5 _ fdDeed ["land", "thing"] (spDeed K (He.ga K "Land")) := ok_isDeed FDeed L.LC L.mA L.GA L.bA GTold gTold FTold.kp bTold
  have GLD : FnOk P w K mg base CX0 2 _ fdLD ["names", "thing"] (spLDeed K) := ok_lDeed FLD T TF FLP gLP
  have GSame : FnOk P w K mg base CX0 4 _ fdSame ["found", "wanted"] (spSame (SameV K (He.ga K "Land") 3)) := ok_same FSame gSame T TF L.F.E L.GE L.bE bSame 3
  have GLoose : FnOk P w K mg base CX0 3 _ fdLoose ["source", "thing"] (spLoose K True) := ok_loose FLoose gLoose bLoose T GDraw gDraw FDraw.kp bDraw
  have GSA : FnOk P w K mg base CX0 3 _ fdSA ["source", "names"] (spSAny K) := ok_sAny FSA GDraw gDraw FDraw.kp bDraw GMix gMix FMix.kp bMix GPick gPick FPick.kp bPick
  have GBent : FnOk P w K mg base CX0 4 _ fdBent ["source", "names", "deed"] (spBent K) := ok_bent FBent T GDraw gDraw FDraw.kp bDraw GLoose gLoose FLoose.kp bLoose GPick gPick FPick.kp bPick
  have GOdd : FnOk P w K mg base CX0 2 _ fdOdd ["names"] (spLOdd K) := ok_lOdd FOdd FLN gLN T en
  obtain ⟨oMet, lMet, cMet⟩ := D.met
  obtain ⟨oBent, lBent, cBent⟩ := D.bent
  have ME : MetK K mg (He.ga K "BadAddresses") (He.ga K "BadMost") := ⟨He.glo_ok X G (s.fact (mem_fa1 (by simp [fa1]))), He.glo_ok X G (s.fact (mem_fa1 (by simp [fa1]))), D.eA.xf, D.eM.xf, He.noat_ok (s.fact (mem_fa1 (by simp [fa1]))), He.noat_ok (s.fact (mem_fa1 (by simp [fa1]))),
    He.exm_ok (s.fact (mem_fa1 (by simp [fa1]))), He.exm_ok (s.fact (mem_fa1 (by simp [fa1]))), He.exm_ok (s.fact (mem_fa1 (by simp [fa1])))⟩
  have GLR : FnOk P w K mg base CX0 6 _ fdLR ["source", "names", "most"] (spLands K) := ok_lands FLR T TF L GPick gPick FPick.kp bPick GSame gSame FSame.kp bSame gMet lMet cMet
  have GRR : FnOk P w K mg base CX0 8 _ fdRR ["source", "names", "most"] (spRefused [((He.cT K ("_law_refused_right", none)).2, qLam)]) := ok_refused FRR T TD TF L GDraw gDraw FDraw.kp bDraw GPick gPick FPick.kp bPick GOdd gOdd FOdd.kp bOdd GSame gSame FSame.kp bSame FMet bMet gMet lMet cMet ME TB (fun y m _ => by rw [List.mem_singleton.mp m]) (List.mem_singleton.mpr rfl)
  -- scenes and histories
  obtain ⟨fdSI, FSI⟩ := s.me (c := "Scene") (m := "__init__") (q := "Scene.__init__") (st := inClass (top 39) 0) (by simp [mes]) (by simp [fa1])
  obtain ⟨fdHI, FHI⟩ := s.me (c := "History") (m := "__init__") (q := "History.__init__") (st := inClass (top 44) 0) (by simp [mes]) (by simp [fa1])
  have SC : SceneC K (He.ga K "Scene") := ⟨He.cls_ok (s.fact (mem_fa1 (by simp [fa1]))), He.noat_ok (s.fact (mem_fa1 (by simp [fa1]))), He.noat_ok (s.fact (mem_fa1 (by simp [fa1]))), He.noat_ok (s.fact (mem_fa1 (by simp [fa1])))⟩
  have HC : HistC K (He.ga K "History") := ⟨He.cls_ok (s.fact (mem_fa1 (by simp [fa1]))), He.noat_ok (s.fact (mem_fa1 (by simp [fa1]))), He.noat_ok (s.fact (mem_fa1 (by simp [fa1]))), He.noat_ok (s.fact (mem_fa1 (by simp [fa1])))⟩
  have gScene : mg "Scene" = some (.ref (He.ga K "Scene")) := He.glo_ok X G (s.fact (mem_fa1 (by simp [fa1])))
  have gHist : mg "History" = some (.ref (He.ga K "History")) := He.glo_ok X G (s.fact (mem_fa1 (by simp [fa1])))
  have bSI := FSI.binds (ps := ["self", "lying", "born", "days"]) (fun _ _ _ _ _ _ us hl => match us, hl with | [_, _, _, _], _ => rfl)
  have bHI := FHI.binds (ps := ["self", "land", "deeds"]) (fun _ _ _ _ _ _ us hl => match us, hl with | [_, _, _], _ => rfl)
  have GEmp : FnOk P w K mg base CX0 3 _ fdEmp ["names"] (spEmpty K) := ok_empty FEmp (He.mkr_ok (s.fact (mem_fa1 (f := .mkr "Scene") (by simp [fa1])))) (ok_sceneInit FSI SC) gScene bSI
  have GHI : FnOk P w K mg base CX0 4 _ fdHI ["self", "land", "deeds"] (spHistInit K (He.ga K "Land") (He.ga K "History")) := ok_histInit FHI T en HC L (ok_checkLand FCkL T L) gCkL FCkL.kp bCkL GList gList FList.kp bList GEmp gEmp FEmp.kp bEmp
  have hsys : ∃ o, base.get? sysModules = some o := by
    obtain ⟨o, e⟩ := D.sys
    exact ⟨o, X _ _ e⟩
  have DB : BodyAt (cxLaw P w K mg base fa cdv s₁ H) 5 (He.ga K "_law_deeds_right") "_law_deeds_right" sDeeds ["source", "names", "most"] spDeeds :=
    deeds_at (fG := 0) (fdG := fdSA) (X := cxLaw P w K mg base fa cdv s₁ H) rfl hsys rp T TD TF L (ownC_of HC.cl D.oH) GSame gSame FSame.kp bSame GDraw gDraw FDraw.kp bDraw GSA gSA FSA.kp bSA GBent gBent FBent.kp bBent lBent cBent GDeed gDeedF FDeed.kp bDeed (kwDeed FDeed) GLD gLD FLD.kp bLD (He.mkr_ok (s.fact (mem_fa1 (f := .mkr "History") (by simp [fa1])))) GHI gHist bHI
  exact law_body TD GSrc gSrc FSrc.kp bSrc GDraw gDraw FDraw.kp bDraw GPick gPick FPick.kp bPick GON gON FON.kp bON GLR gLR FLR.kp bLR GRR gRR FRR.kp bRR FDR gDR bDR DB hS tabs hr
end
end OB
namespace OB
open PySem PySem.Spec PyProof.Rows L2 LamX
/-- the law, called by the outermost caller behind the top -/
theorem law_call0 {P : Program} {w : World} {K : PySem.W.Frag} {mg mb : Str → Option Value} {fa a : Addr} {s₁ : Shared} {vs : List Value} {ns : List Int}
    (hP : file = P.main.file) (htop : (P.main.scope.names.lookup ("super" : Str)).isSome = false) (KX : K.In s₁.heap) (S : SaysK w s₁.heap K) (hmg : mg "law" = some (.ref fa))
    (nG : s₁.heap.Ns mainGlobals mg) (nB : s₁.heap.Ns builtinsNs mb) (hB : ∀ x : Str, x ≠ "__name__" → mb x = bootBuiltins x) (lim : s₁.heap.NoLimit) (ge : s₁.gens = #[])
    (bm : ∃ (m : Addr) (ob : Obj), mg "__builtins__" = some (.ref m) ∧ m ≠ builtinsNs ∧ s₁.heap.get? m = some ob ∧ ob.cls = .type "module" ∧ ob.dict = some builtinsNs ∧ ob.data = .plain)
    (ga : s₁.heap.get? a = some { cls := .type "list", data := .seq vs.toArray }) (iv : IntsAre vs ns) (hl : ns.length ≤ sizeLine) :
    codeAny (model P w) callerA (.call (.ref fa) ⟨[.ref a], []⟩) (fun r s' => r = .ok (.ret (.bool true)) ∧ OldK s₁.heap s'.heap ∧ s'.os = s₁.os ∧ AllBare s'.gens) s₁ := by
  have mLaw : (("law" : Str), 64) ∈ fns := by simp [fns, fns1]
  have mt : (("_law_refused_right" : Str), (none : Option Str)) ∈ tfs := List.mem_singleton.mpr rfl
  have eL := He.glo_ok KX nG (S.fact (mem_fa0 mLaw))
  obtain ⟨oc, od, osl, kV, doc, pm, an, cdv, ct, lk, hcd⟩ := S.def_ (d := dFn ("law", 64)) (List.mem_append_left _ (List.mem_map.mpr ⟨_, mLaw, rfl⟩))
  have ef : fa = He.ga K "law" := Value.ref.inj (Option.some.inj (hmg.symm.trans eL))
  subst ef
  refine law_at (cs := [He.cT K ("_law_refused_right", none)]) (K := K) KX nG nB hB lim ge (fun p m => ?_) (fun p m => ?_) (fun p m => ?_) bm ga iv hl fun base H KB G TB hT hS e0 => ?_
  · rw [List.mem_singleton.mp m]
    exact S.empty _ mt
  · rw [List.mem_singleton.mp m]
    exact S.out _ mt
  · rw [List.mem_singleton.mp m]
    exact PySem.W.codeHd_of_K KX (S.hd _ mt)
  · have tabs0 : Tabs [((He.cT K ("_law_refused_right", none)).2, qLam)] H := fun p m => by
      rw [List.mem_singleton.mp m]
      exact TabS.nil (hT _ (List.mem_singleton.mpr rfl))
    refine run_ofS (CX := CX0) (k := 8) (N := Nl) (ps := ["script"]) (us := [.ref a]) (vs := [.ref a]) (Q := fun v _ => v = .bl true) (E := fun _ _ _ => False) lk hcd scLaw room9 e0 (.of_eq rfl) (.cons rfl .nil) rfl fun hr => ?_
    obtain ⟨t, ht1, ht2⟩ := law_run (P := P) (w := w) hP htop S KB G (TB _ (List.mem_singleton.mpr rfl)) (fa := He.ga K "law") (cdv := cdv) (s₁ := s₁) hS tabs0 hr
    exact ⟨t, ht1.nox, ht2⟩
end OB
namespace OB
open PySem PySem.W PySem.Calls PyProof.Rows
def hk : Hook where
  α := LookT
  obs s := lk s.heap.get?
  val w := vl w
  says w h := ∃ K : Frag, K.In h ∧ SaysK w h K
  of _ _ e := says_of e
  keeps _ _ _ s k := by
    obtain ⟨K, X, t⟩ := s
    exact ⟨K, PySem.W.Frag.In.keeps X k, t.keeps k⟩
def ob (s : SharedT) : LookT := (lkA (HandSHeadRun.getT s), (lkB (HandSHeadRun.getT s), (lkC (HandSHeadRun.getT s), lkD (HandSHeadRun.getT s))))
theorem ob_eq (s : SharedT) : ob s = hk.obs s.abs := by
  have e : HandSHeadRun.getT s = s.abs.heap.get? := funext (HandSHeadRun.getT_eq s)
  show (lkA (HandSHeadRun.getT s), (lkB (HandSHeadRun.getT s), (lkC (HandSHeadRun.getT s), lkD (HandSHeadRun.getT s)))) = _
  rw [e] <;> rfl
theorem map_pair {S A B : Type} {o : Option S} {f : S → A} {g : S → B} {a : A} {b : B} (h1 : o.map f = some a) (h2 : o.map g = some b) : o.map (fun s => (f s, g s)) = some (a, b) := by
  cases o with
  | none => cases h1
  | some s =>
    obtain rfl := Option.some.inj h1
    obtain rfl := Option.some.inj h2
    rfl
theorem run (w : World) : HandSHeadRun.RunEq R qv hk ob 20000 names w := fun os => map_pair (runL w os) (map_pair (runS w os) (map_pair (runA w os) (map_pair (runB w os) (map_pair (runC w os) (runD w os)))))
theorem file_ok : file = PySem.Challenge.rw_oldaddress_k01_whole_lands_and_deeds.prog.main.file := by kernel_rfl
theorem top_ok : (PySem.Challenge.rw_oldaddress_k01_whole_lands_and_deeds.prog.main.scope.names.lookup ("super" : PySem.Str)).isSome = false := by kernel_rfl
end OB
open PySem PySem.W PySem.Calls PyProof.Rows
theorem PySem.Challenge.cw_oldaddress_k01_whole_lands_and_deeds_holds : PySem.Challenge.rw_oldaddress_k01_whole_lands_and_deeds.Holds := by
  w_on; o_law
  refine HandSHeadRun.head_any (r := OpenLaw.row PySem.Challenge.rw_oldaddress_k01_whole_lands_and_deeds) (q := view (OpenLaw.row PySem.Challenge.rw_oldaddress_k01_whole_lands_and_deeds).prog [64]) (H := OB.hk) (ob := OB.ob) (M := 20000) (loose := OB.names) (d := HandSHeadRun.topDef (OpenLaw.row PySem.Challenge.rw_oldaddress_k01_whole_lands_and_deeds).prog 64) (kwd := []) OB.ob_eq
    (by kernel_rfl) (fun s => by kernel_rfl) OB.run (by kernel_rfl) (by kernel_rfl) (by kernel_rfl) (by rfl) (by first | assumption | decide +kernel) (by decide +kernel) ⟨rfl, rfl, rfl, rfl, rfl, by decide +kernel⟩ ?hw ?hc
  case hw => w_witness2
  case hc =>
    refine Att.attach_callB (l := PySem.Challenge.rw_oldaddress_k01_whole_lands_and_deeds) (n := 63) rfl (by kernel_rfl) fun w s₀ s₁ mg mb fa o pm cd doc a vs ns G Y ho hd hcd hmg0 hobj hints hlen hbits hg => ?_
    obtain ⟨K, KX, S⟩ := Y
    have hmg : mg ("law" : PySem.Str) = some (.ref fa) := by
      have e : (HandSHeadRun.topDef (OpenLaw.row PySem.Challenge.rw_oldaddress_k01_whole_lands_and_deeds).prog 64).name = ("law" : PySem.Str) := by kernel_rfl
      rw [← e]
      exact hmg0
    exact OB.law_call0 OB.file_ok OB.top_ok KX S hmg G.T.g G.T.b G.T.builtins G.T.nolimit hg G.T.bmain hobj hints (Nat.le_trans hlen (by decide))

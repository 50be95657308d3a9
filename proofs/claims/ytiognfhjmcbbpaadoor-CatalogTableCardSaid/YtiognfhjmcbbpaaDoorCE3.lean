import Derived.Test.YtiognfhjmcbbpaaDoorCE2
namespace Go.Proofs.YtiognfhjmcbbpaaDoor.Ev
open Go.RowKit
set_option linter.unusedSimpArgs false
set_option linter.unusedVariables false

/-! ## The reference's table -/

noncomputable def E2 : Env := mkE [(49, FSuite), (48, FUse)] []
theorem E2_ok : E2.OK Tryd.prog GC := mkE_ok (by
  intro p h
  rcases List.mem_cons.1 h with rfl | h
  · exact spec_suite
  rcases List.mem_cons.1 h with rfl | h
  · exact spec_use
  · cases h) (fun p h => by cases h)
set_option maxRecDepth 100000 in
set_option maxHeartbeats 4000000 in
theorem spec_rsuites : SpecP Tryd.prog GC 32 FSuites := by
  refine specP_of (X := cx E2 110 [0, 1, 2, 3, 4, 5, 6, 7, 8, 9, 10, 11, 12, 13, 14, 69]) (cx_ok E2_ok _ _) rfl Tryd.func32 rfl rfl rfl (by kernel_rfl) ?_
  intro args r hr
  unfold FSuites at hr
  split at hr
  · simp at hr
    subst hr
    refine ⟨by simp [cx], rfl, fun _ => ?_⟩
    simp (config := { maxSteps := 3000000 }) only [tz29, tz23, tp23, ts23, ta23, ta29, ts29, te47, FUse, FSuite, Tryd.results32, E2, awc_skip, awc_region, awc_regionD, awc_seq, awc_cond, awc_block, awc_loop, awc_exit, awc_ret, thenQ_normal, thenQ_ret, thenQ_exit, blockQ_normal, blockQ_ret, blockQ_exit, brC_bool, Br_true, Br_false, resQ_some, keepT_nil, keepT_cons, look_nil, look_cons, evOps_nil, evOps_cons, evOpsD_nil, evOpsD_cons, putT_some, putT_none, opC_tmp, opC_func, opC_int, opC_bool, opC_string, opC_slice, opC_agg, pickC, loadC, guardC, fieldV, idxV, indexV, sliceV, extractC, lenV, unC, cvC, storeC, evG_none, evG_some, evE_move, evE_assign, evE_pick, evE_nil, evE_box, evE_alloc, evE_load, evE_store, evE_fieldAddr, evE_field, evE_indexAddr, evE_index, evE_build, evE_buildSlice, evE_slice, evE_extract, evE_bin, evE_un, evE_convert, evE_len, evE_append, evE_callf, evE_callt, binC_v, bin_add, bin_sub, bin_mul, bin_lss, bin_leq, bin_gtr, bin_geq, bin_eql, bin_neq, bin_rem, bin_quo, un_not, argsT, List.map_cons, List.map_nil, reduceIte, Nat.reduceEqDiff, Nat.reduceAdd, cx_P, cx_G, cx_E, cx_keep, cx_hd, retQ_ret, resAll, resOne, packC, finV, finA, fin1, fin0, lenC, goInt, normC, Cod.len, Cod.get, List.getElem?_toArray, List.getElem?_cons_zero, List.getElem?_cons_succ, List.toList_toArray, evGD, Bool.or_true, Bool.true_or, ne_eq, not_true_eq_false, not_false_eq_true, decide_true, decide_false, decide_not, Bool.not_true, Bool.not_false, Int.natCast_inj, Int.ofNat_lt, Int.ofNat_le, and_true, true_and, and_self, Int.natCast_nonneg, Int.toNat_natCast, if_true, if_false, binC_agg, binC_sl, cellsV, codPair_enc, codInt_enc, codStr_enc, List.length_cons, List.length_nil, List.take_succ_cons, List.take_zero, List.take_nil, List.drop_zero, List.drop_succ_cons, Nat.le_refl, Nat.reduceLeDiff, List.head?_cons, Nat.zero_add, opC_global, idxC, evLoad, partC, liveB, storeH, overC, ptrCells, fieldC, fillC, buildC, bsC, chunkC, repC, boxC, nilC, newVarB, partAtC, idxA, List.zipIdx_cons, List.zipIdx_nil, List.set_cons_zero, List.set_cons_succ, List.all_cons, List.all_nil, C.deep, Bool.and_true, Bool.and_self, List.nil_append, List.cons_append, Nat.reduceMul, Nat.reduceSub, Nat.reduceLT, decide_eq_true_eq, Option.getD_some, Option.getD_none, List.mapM_nil, List.mapM_cons, Option.bind_eq_bind, Option.pure_def, ob_some, ob_none, om_some, om_none, kpL_nil, kpL_cons, khL_nil, khL_cons, mkE_kp, mkE_kh, mkE_vb, evCall, callee_func, viewA, viewC, viewP, appC, appH, ghostB, List.isEmpty_cons, List.isEmpty_nil, Bool.and_false, Bool.false_and, List.forall_mem_cons, List.mem_cons, forall_eq_or_imp, List.length_append, Prod.mk.injEq, Bool.not_eq_true, Bool.false_eq_true, List.mem_singleton, List.not_mem_nil, or_false, forall_eq, false_implies, implies_true, forall_const, isTup, belV, belA, belC, belP, belH, forgetB, reduceCtorEq, List.append_eq, obind_some, obind_none]
    kernel_rfl
  · cases hr
end Go.Proofs.YtiognfhjmcbbpaaDoor.Ev

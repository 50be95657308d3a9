import Derived.Test.YtiognfhjmcbbpaaDoorDi1
namespace Go.Proofs.YtiognfhjmcbbpaaDoor.Ev
open Go.RowKit
set_option linter.unusedSimpArgs false
set_option linter.unusedVariables false

/-! ## Next -/

def dNext (l : List Int) (a : Nat) (k : Int) : Int := if a < l.length then modF (l.getD a 0) k else 0
def dAt (l : List Int) (a : Nat) : Nat := if a < l.length then a + 1 else a
theorem dAt_le {l : List Int} {a : Nat} (h : a ≤ l.length) : dAt l a ≤ l.length := by unfold dAt; split <;> omega
theorem dNext_lt {l : List Int} {a : Nat} {k : Int} (h1 : 1 ≤ k) (h2 : k ≤ 4611686018427387904) : 0 ≤ dNext l a k ∧ dNext l a k < k := by
  unfold dNext
  split
  · exact mod_lt h1 h2
  · omega
def FNext : List C → List Blk → Option (C × List Blk)
  | [.ptr n 0 0 0, .v (.int .i64 k)], H => (H[n]?).bind fun bl => (diceOf bl).bind fun d => if okH H.length H = true then some (.v (.int .i64 (dNext d.2.1 d.2.2 k)), H.set n (diceB d.1 d.2.1 (dAt d.2.1 d.2.2))) else none
  | _, _ => none
theorem FNext_eq {H : List Blk} {n : Nat} {nl : Bool} {l : List Int} {a : Nat} {k : Int} (hbl : H[n]? = some (diceB nl l a)) (hle : a ≤ l.length) (hok : okH H.length H = true) :
    FNext [.ptr n 0 0 0, .v (.int .i64 k)] H = some (.v (.int .i64 (dNext l a k)), H.set n (diceB nl l (dAt l a))) := by
  simp [FNext, hbl, diceOf_B hle, hok]
theorem retH_mk {rs : List ResultVar} {r : C} {H' : List Blk} {t : List (Nat × C)} (h1 : ((resAll Tryd.prog t H' rs).bind packC) = some r) (hv : belV H'.length r = true) (hb : belH H'.length H' = true) : retH Tryd.prog rs r H' .ret t H' :=
  ⟨.inl rfl, h1, List.take_of_length_le (Nat.le_refl _), hv, hb⟩
noncomputable def N1 : Env := mkE [(27, FMod)] []
theorem N1_ok : N1.OK Tryd.prog GC := mkE_ok (by
  intro p h
  rcases List.mem_cons.1 h with rfl | h
  · exact spec_mod
  · cases h) (fun p h => by cases h)
theorem set_same {α : Type} {H : List α} {n : Nat} {b : α} (h : H[n]? = some b) : H.set n b = H := by
  apply List.ext_getElem?
  intro j
  rw [List.getElem?_set]
  split
  · rename_i e
    subst e
    obtain ⟨h1, h2⟩ := List.getElem?_eq_some_iff.1 h
    rw [if_pos h1, h]
  · rfl
theorem dice_bel {m : Nat} {nl : Bool} {l : List Int} {a : Nat} : belBlk m (diceB nl l a) = true := by
  simp [belBlk, diceB, belC, belP]
set_option maxRecDepth 10000 in
theorem spec_next : SpecH Tryd.prog GC 46 FNext := by
  refine specH_of (X := cxm N1 35 [0, 1, 4, 14]) Tryd.func46 rfl rfl (cxm_ok N1_ok _ _) (fun m => ⟨rfl, rfl, rfl, rfl⟩) (fun m => by kernel_rfl) ?_
  intro args H r H' hr
  unfold FNext at hr
  split at hr
  · rename_i n k
    simp only [Option.bind_eq_some_iff] at hr
    obtain ⟨bl, hbl, ⟨nl, l, a⟩, hd, hr⟩ := hr
    obtain ⟨rfl, hle⟩ := diceOf_inv hd
    simp only at hle hr hbl
    clear hd
    split at hr
    · rename_i hok
      simp at hr
      obtain ⟨rfl, rfl⟩ := hr
      refine ⟨by simp [Tryd.ntmps46], by simp, fun hv => ?_⟩
      have hlen : l.length ≤ maxLen := by
        obtain ⟨M, vs, rfl, hM, _⟩ := hv
        exact dice_len hM hbl
      have hnH : n < H.length := (List.getElem?_eq_some_iff.1 hbl).1
      unfold maxLen at hlen
      have hb : ∀ a', belH (H.set n (diceB nl l a')).length (H.set n (diceB nl l a')) = true := fun a' => by
        rw [List.length_set]
        exact belH_ok (okH_set hok dice_bel)
      by_cases hlt : a < l.length
      · have e1 : dNext l a k = modF (l.getD a 0) k := if_pos hlt
        have e2 : dAt l a = a + 1 := if_pos hlt
        rw [e1, e2]
        have hge : (l.length ≤ a) = False := by simp; omega
        have hs : ∀ x, (H.set n x)[n]? = some x := fun x => by rw [List.getElem?_set_self hnH]
        have hw : IntKind.i64.wrap ((a : Int) + 1) = ((a + 1 : Nat) : Int) := by rw [wrap_i64 (by omega) (by omega)]; omega
        have hw2 : IntKind.i64.wrap (((a + 1 : Nat) : Int) - 1) = (a : Int) := by rw [wrap_i64 (by omega) (by omega)]; omega
        have hg : l[a]? = some (l.getD a 0) := by rw [List.getElem?_eq_getElem hlt]; simp [List.getD, hlt]
        have hb1 := hb (a + 1)
        unfold diceB at hbl hb1 ⊢
        simp only [hge, hlt, hs, hbl, hg, hw, hw2, FMod, tl40, teL, taL, taI, tsI, tf72_0, tf72_1, ts72, ta72, N1, Tryd.results46, cxm_P, cxm_G, cxm_E, cxm_keep, cxm_hd, cxm_m, awc_skip, awc_region, awc_regionD, awc_seq, awc_cond, awc_block, awc_loop, awc_exit, awc_ret, thenQ_normal, thenQ_ret, thenQ_exit, blockQ_normal, blockQ_ret, blockQ_exit, brC_bool, Br_true, Br_false, resQ_some, keepT_nil, keepT_cons, look_nil, look_cons, evOps_nil, evOps_cons, evOpsD_nil, evOpsD_cons, putT_some, putT_none, opC_tmp, opC_func, opC_int, opC_bool, opC_string, opC_slice, opC_agg, pickC, loadC, guardC, fieldV, idxV, indexV, sliceV, extractC, lenV, unC, cvC, storeC, evG_none, evG_some, evE_move, evE_assign, evE_pick, evE_nil, evE_box, evE_alloc, evE_load, evE_store, evE_fieldAddr, evE_field, evE_indexAddr, evE_index, evE_build, evE_buildSlice, evE_slice, evE_extract, evE_bin, evE_un, evE_convert, evE_len, evE_append, evE_callf, evE_callt, binC_v, bin_add, bin_sub, bin_mul, bin_lss, bin_leq, bin_gtr, bin_geq, bin_eql, bin_neq, bin_rem, bin_quo, un_not, argsT, List.map_cons, List.map_nil, reduceIte, Nat.reduceEqDiff, Nat.reduceAdd, cx_P, cx_G, cx_E, cx_keep, cx_hd, retQ_ret, resAll, resOne, packC, finV, finA, fin1, fin0, lenC, goInt, normC, Cod.len, Cod.get, List.getElem?_toArray, List.getElem?_cons_zero, List.getElem?_cons_succ, List.toList_toArray, evGD, Bool.or_true, Bool.true_or, ne_eq, not_true_eq_false, not_false_eq_true, decide_true, decide_false, decide_not, Bool.not_true, Bool.not_false, Int.natCast_inj, Int.ofNat_lt, Int.ofNat_le, and_true, true_and, and_self, Int.natCast_nonneg, Int.toNat_natCast, if_true, if_false, binC_agg, binC_sl, cellsV, codPair_enc, codInt_enc, codStr_enc, List.length_cons, List.length_nil, List.take_succ_cons, List.take_zero, List.take_nil, List.drop_zero, List.drop_succ_cons, Nat.le_refl, Nat.reduceLeDiff, List.head?_cons, Nat.zero_add, opC_global, idxC, evLoad, partC, liveB, storeH, overC, ptrCells, fieldC, fillC, buildC, bsC, chunkC, repC, boxC, nilC, newVarB, partAtC, idxA, List.zipIdx_cons, List.zipIdx_nil, List.set_cons_zero, List.set_cons_succ, List.all_cons, List.all_nil, C.deep, Bool.and_true, Bool.and_self, List.nil_append, List.cons_append, Nat.reduceMul, Nat.reduceSub, Nat.reduceLT, decide_eq_true_eq, Option.getD_some, Option.getD_none, List.mapM_nil, List.mapM_cons, Option.bind_eq_bind, Option.pure_def, ob_some, ob_none, om_some, om_none, kpL_nil, kpL_cons, khL_nil, khL_cons, mkE_kp, mkE_kh, mkE_vb, evCall, callee_func, viewA, viewC, viewP, appC, appH, ghostB, List.isEmpty_cons, List.isEmpty_nil, Bool.and_false, Bool.false_and, List.forall_mem_cons, List.mem_cons, forall_eq_or_imp, List.length_append, Prod.mk.injEq, Bool.not_eq_true, Bool.false_eq_true, List.mem_singleton, List.not_mem_nil, or_false, forall_eq, false_implies, implies_true, forall_const, isTup, belV, belA, belC, belP, belH, forgetB, reduceCtorEq, List.append_eq, obind_some, obind_none]
        exact retH_mk (by simp only [awc_skip, awc_region, awc_regionD, awc_seq, awc_cond, awc_block, awc_loop, awc_exit, awc_ret, thenQ_normal, thenQ_ret, thenQ_exit, blockQ_normal, blockQ_ret, blockQ_exit, brC_bool, Br_true, Br_false, resQ_some, keepT_nil, keepT_cons, look_nil, look_cons, evOps_nil, evOps_cons, evOpsD_nil, evOpsD_cons, putT_some, putT_none, opC_tmp, opC_func, opC_int, opC_bool, opC_string, opC_slice, opC_agg, pickC, loadC, guardC, fieldV, idxV, indexV, sliceV, extractC, lenV, unC, cvC, storeC, evG_none, evG_some, evE_move, evE_assign, evE_pick, evE_nil, evE_box, evE_alloc, evE_load, evE_store, evE_fieldAddr, evE_field, evE_indexAddr, evE_index, evE_build, evE_buildSlice, evE_slice, evE_extract, evE_bin, evE_un, evE_convert, evE_len, evE_append, evE_callf, evE_callt, binC_v, bin_add, bin_sub, bin_mul, bin_lss, bin_leq, bin_gtr, bin_geq, bin_eql, bin_neq, bin_rem, bin_quo, un_not, argsT, List.map_cons, List.map_nil, reduceIte, Nat.reduceEqDiff, Nat.reduceAdd, cx_P, cx_G, cx_E, cx_keep, cx_hd, retQ_ret, resAll, resOne, packC, finV, finA, fin1, fin0, lenC, goInt, normC, Cod.len, Cod.get, List.getElem?_toArray, List.getElem?_cons_zero, List.getElem?_cons_succ, List.toList_toArray, evGD, Bool.or_true, Bool.true_or, ne_eq, not_true_eq_false, not_false_eq_true, decide_true, decide_false, decide_not, Bool.not_true, Bool.not_false, Int.natCast_inj, Int.ofNat_lt, Int.ofNat_le, and_true, true_and, and_self, Int.natCast_nonneg, Int.toNat_natCast, if_true, if_false, binC_agg, binC_sl, cellsV, codPair_enc, codInt_enc, codStr_enc, List.length_cons, List.length_nil, List.take_succ_cons, List.take_zero, List.take_nil, List.drop_zero, List.drop_succ_cons, Nat.le_refl, Nat.reduceLeDiff, List.head?_cons, Nat.zero_add, opC_global, idxC, evLoad, partC, liveB, storeH, overC, ptrCells, fieldC, fillC, buildC, bsC, chunkC, repC, boxC, nilC, newVarB, partAtC, idxA, List.zipIdx_cons, List.zipIdx_nil, List.set_cons_zero, List.set_cons_succ, List.all_cons, List.all_nil, C.deep, Bool.and_true, Bool.and_self, List.nil_append, List.cons_append, Nat.reduceMul, Nat.reduceSub, Nat.reduceLT, decide_eq_true_eq, Option.getD_some, Option.getD_none, List.mapM_nil, List.mapM_cons, Option.bind_eq_bind, Option.pure_def, ob_some, ob_none, om_some, om_none, kpL_nil, kpL_cons, khL_nil, khL_cons, mkE_kp, mkE_kh, mkE_vb, evCall, callee_func, viewA, viewC, viewP, appC, appH, ghostB, List.isEmpty_cons, List.isEmpty_nil, Bool.and_false, Bool.false_and, List.forall_mem_cons, List.mem_cons, forall_eq_or_imp, List.length_append, Prod.mk.injEq, Bool.not_eq_true, Bool.false_eq_true, List.mem_singleton, List.not_mem_nil, or_false, forall_eq, false_implies, implies_true, forall_const, isTup, belV, belA, belC, belP, belH, forgetB, reduceCtorEq, List.append_eq, obind_some, obind_none]) rfl hb1
      · have e1 : dNext l a k = 0 := if_neg hlt
        have e2 : dAt l a = a := if_neg hlt
        rw [e1, e2]
        have hge : (l.length ≤ a) = True := by simp; omega
        have hb1 := hb a
        have hss := set_same hbl
        rw [hss] at hb1 ⊢
        clear hss
        unfold diceB at hbl
        simp only [hge, hlt, hbl, tl40, taL, taI, tsI, tf72_0, tf72_1, ts72, ta72, N1, Tryd.results46, cxm_P, cxm_G, cxm_E, cxm_keep, cxm_hd, cxm_m, awc_skip, awc_region, awc_regionD, awc_seq, awc_cond, awc_block, awc_loop, awc_exit, awc_ret, thenQ_normal, thenQ_ret, thenQ_exit, blockQ_normal, blockQ_ret, blockQ_exit, brC_bool, Br_true, Br_false, resQ_some, keepT_nil, keepT_cons, look_nil, look_cons, evOps_nil, evOps_cons, evOpsD_nil, evOpsD_cons, putT_some, putT_none, opC_tmp, opC_func, opC_int, opC_bool, opC_string, opC_slice, opC_agg, pickC, loadC, guardC, fieldV, idxV, indexV, sliceV, extractC, lenV, unC, cvC, storeC, evG_none, evG_some, evE_move, evE_assign, evE_pick, evE_nil, evE_box, evE_alloc, evE_load, evE_store, evE_fieldAddr, evE_field, evE_indexAddr, evE_index, evE_build, evE_buildSlice, evE_slice, evE_extract, evE_bin, evE_un, evE_convert, evE_len, evE_append, evE_callf, evE_callt, binC_v, bin_add, bin_sub, bin_mul, bin_lss, bin_leq, bin_gtr, bin_geq, bin_eql, bin_neq, bin_rem, bin_quo, un_not, argsT, List.map_cons, List.map_nil, reduceIte, Nat.reduceEqDiff, Nat.reduceAdd, cx_P, cx_G, cx_E, cx_keep, cx_hd, retQ_ret, resAll, resOne, packC, finV, finA, fin1, fin0, lenC, goInt, normC, Cod.len, Cod.get, List.getElem?_toArray, List.getElem?_cons_zero, List.getElem?_cons_succ, List.toList_toArray, evGD, Bool.or_true, Bool.true_or, ne_eq, not_true_eq_false, not_false_eq_true, decide_true, decide_false, decide_not, Bool.not_true, Bool.not_false, Int.natCast_inj, Int.ofNat_lt, Int.ofNat_le, and_true, true_and, and_self, Int.natCast_nonneg, Int.toNat_natCast, if_true, if_false, binC_agg, binC_sl, cellsV, codPair_enc, codInt_enc, codStr_enc, List.length_cons, List.length_nil, List.take_succ_cons, List.take_zero, List.take_nil, List.drop_zero, List.drop_succ_cons, Nat.le_refl, Nat.reduceLeDiff, List.head?_cons, Nat.zero_add, opC_global, idxC, evLoad, partC, liveB, storeH, overC, ptrCells, fieldC, fillC, buildC, bsC, chunkC, repC, boxC, nilC, newVarB, partAtC, idxA, List.zipIdx_cons, List.zipIdx_nil, List.set_cons_zero, List.set_cons_succ, List.all_cons, List.all_nil, C.deep, Bool.and_true, Bool.and_self, List.nil_append, List.cons_append, Nat.reduceMul, Nat.reduceSub, Nat.reduceLT, decide_eq_true_eq, Option.getD_some, Option.getD_none, List.mapM_nil, List.mapM_cons, Option.bind_eq_bind, Option.pure_def, ob_some, ob_none, om_some, om_none, kpL_nil, kpL_cons, khL_nil, khL_cons, mkE_kp, mkE_kh, mkE_vb, evCall, callee_func, viewA, viewC, viewP, appC, appH, ghostB, List.isEmpty_cons, List.isEmpty_nil, Bool.and_false, Bool.false_and, List.forall_mem_cons, List.mem_cons, forall_eq_or_imp, List.length_append, Prod.mk.injEq, Bool.not_eq_true, Bool.false_eq_true, List.mem_singleton, List.not_mem_nil, or_false, forall_eq, false_implies, implies_true, forall_const, isTup, belV, belA, belC, belP, belH, forgetB, reduceCtorEq, List.append_eq, obind_some, obind_none]
        exact retH_mk (by simp only [awc_skip, awc_region, awc_regionD, awc_seq, awc_cond, awc_block, awc_loop, awc_exit, awc_ret, thenQ_normal, thenQ_ret, thenQ_exit, blockQ_normal, blockQ_ret, blockQ_exit, brC_bool, Br_true, Br_false, resQ_some, keepT_nil, keepT_cons, look_nil, look_cons, evOps_nil, evOps_cons, evOpsD_nil, evOpsD_cons, putT_some, putT_none, opC_tmp, opC_func, opC_int, opC_bool, opC_string, opC_slice, opC_agg, pickC, loadC, guardC, fieldV, idxV, indexV, sliceV, extractC, lenV, unC, cvC, storeC, evG_none, evG_some, evE_move, evE_assign, evE_pick, evE_nil, evE_box, evE_alloc, evE_load, evE_store, evE_fieldAddr, evE_field, evE_indexAddr, evE_index, evE_build, evE_buildSlice, evE_slice, evE_extract, evE_bin, evE_un, evE_convert, evE_len, evE_append, evE_callf, evE_callt, binC_v, bin_add, bin_sub, bin_mul, bin_lss, bin_leq, bin_gtr, bin_geq, bin_eql, bin_neq, bin_rem, bin_quo, un_not, argsT, List.map_cons, List.map_nil, reduceIte, Nat.reduceEqDiff, Nat.reduceAdd, cx_P, cx_G, cx_E, cx_keep, cx_hd, retQ_ret, resAll, resOne, packC, finV, finA, fin1, fin0, lenC, goInt, normC, Cod.len, Cod.get, List.getElem?_toArray, List.getElem?_cons_zero, List.getElem?_cons_succ, List.toList_toArray, evGD, Bool.or_true, Bool.true_or, ne_eq, not_true_eq_false, not_false_eq_true, decide_true, decide_false, decide_not, Bool.not_true, Bool.not_false, Int.natCast_inj, Int.ofNat_lt, Int.ofNat_le, and_true, true_and, and_self, Int.natCast_nonneg, Int.toNat_natCast, if_true, if_false, binC_agg, binC_sl, cellsV, codPair_enc, codInt_enc, codStr_enc, List.length_cons, List.length_nil, List.take_succ_cons, List.take_zero, List.take_nil, List.drop_zero, List.drop_succ_cons, Nat.le_refl, Nat.reduceLeDiff, List.head?_cons, Nat.zero_add, opC_global, idxC, evLoad, partC, liveB, storeH, overC, ptrCells, fieldC, fillC, buildC, bsC, chunkC, repC, boxC, nilC, newVarB, partAtC, idxA, List.zipIdx_cons, List.zipIdx_nil, List.set_cons_zero, List.set_cons_succ, List.all_cons, List.all_nil, C.deep, Bool.and_true, Bool.and_self, List.nil_append, List.cons_append, Nat.reduceMul, Nat.reduceSub, Nat.reduceLT, decide_eq_true_eq, Option.getD_some, Option.getD_none, List.mapM_nil, List.mapM_cons, Option.bind_eq_bind, Option.pure_def, ob_some, ob_none, om_some, om_none, kpL_nil, kpL_cons, khL_nil, khL_cons, mkE_kp, mkE_kh, mkE_vb, evCall, callee_func, viewA, viewC, viewP, appC, appH, ghostB, List.isEmpty_cons, List.isEmpty_nil, Bool.and_false, Bool.false_and, List.forall_mem_cons, List.mem_cons, forall_eq_or_imp, List.length_append, Prod.mk.injEq, Bool.not_eq_true, Bool.false_eq_true, List.mem_singleton, List.not_mem_nil, or_false, forall_eq, false_implies, implies_true, forall_const, isTup, belV, belA, belC, belP, belH, forgetB, reduceCtorEq, List.append_eq, obind_some, obind_none]) rfl hb1
    · cases hr
  · cases hr
end Go.Proofs.YtiognfhjmcbbpaaDoor.Ev

import Derived.Test.YtiognfhjmcbbpaaDoorDi2
namespace Go.Proofs.YtiognfhjmcbbpaaDoor.Ev
open Go.RowKit
set_option linter.unusedSimpArgs false
set_option linter.unusedVariables false

/-! ## Of, size, Use -/

theorem belP_mono {m m' : Nat} (h : m ≤ m') {c : C} (hc : belP m c = true) : belP m' c = true := by
  cases c <;> simp_all [belP] <;> omega
theorem belC_mono {m m' : Nat} (h : m ≤ m') {c : C} (hc : belC m c = true) : belC m' c = true := by
  cases c with
  | fn f caps =>
    simp only [belC] at hc ⊢
    rw [List.all_eq_true] at hc ⊢
    exact fun x hx => belP_mono h (hc x hx)
  | ptr n g i off => exact (show belP m' (.ptr n g i off) = true from belP_mono h (show belP m (.ptr n g i off) = true from hc))
  | own n g k => exact (show belP m' (.own n g k) = true from belP_mono h (show belP m (.own n g k) = true from hc))
  | _ => rfl
theorem okH_mono {m m' : Nat} (h : m ≤ m') {H : List Blk} (hc : okH m H = true) : okH m' H = true := by
  unfold okH at hc ⊢
  rw [List.all_eq_true] at hc ⊢
  intro b hb
  have h1 := hc b hb
  unfold belBlk at h1 ⊢
  rw [Bool.or_eq_true] at h1 ⊢
  refine h1.imp id fun h1 => ?_
  rw [List.all_eq_true] at h1 ⊢
  intro r hr
  have h2 := h1 r hr
  rw [List.all_eq_true] at h2 ⊢
  exact fun x hx => belC_mono h (h2 x hx)
theorem tzI : tzero Tryd.prog 3 = some [.int .i64 0] := by kernel_rfl
theorem retH_more {rs : List ResultVar} {r : C} {H' X : List Blk} {t : List (Nat × C)} (h1 : ((resAll Tryd.prog t (H' ++ X) rs).bind packC) = some r) (hv : belV H'.length r = true) (hb : belH H'.length H' = true) : retH Tryd.prog rs r H' .ret t (H' ++ X) := by
  refine ⟨.inl rfl, h1, by simp, hv, ?_⟩
  unfold belH at hb ⊢
  rw [show (H' ++ X).take H'.length = H'.take H'.length by simp]
  exact hb
theorem okH_snoc {H : List Blk} {b : Blk} (h : okH H.length H = true) (hb : belBlk (H ++ [b]).length b = true) : okH (H ++ [b]).length (H ++ [b]) = true := by
  have h1 : okH (H ++ [b]).length H = true := okH_mono (by simp) h
  unfold okH at h1 ⊢
  rw [List.all_append, h1]
  simpa using hb

noncomputable def N2 : Env := mkE [] [(46, FNext)]
theorem N2_ok : N2.OK Tryd.prog GC := mkE_ok (fun p h => by cases h) (by
  intro p h
  rcases List.mem_cons.1 h with rfl | h
  · exact spec_next
  · cases h)
def dOf (xs : List Int) (l : List Int) (a : Nat) : Int := xs.getD (dNext l a xs.length).toNat 0
def FOf : List C → List Blk → Option (C × List Blk)
  | [.ptr n 0 0 0, .sl nx rows], H => (codInt.decL rows).bind fun xs => (H[n]?).bind fun bl => (diceOf bl).bind fun d => if okH H.length H = true ∧ 0 < xs.length ∧ xs.length ≤ 1000 then some (.v (.int .i64 (dOf xs d.2.1 d.2.2)), H.set n (diceB d.1 d.2.1 (dAt d.2.1 d.2.2))) else none
  | _, _ => none
theorem FOf_eq {H : List Blk} {n : Nat} {nl nx : Bool} {l xs : List Int} {a : Nat} (hbl : H[n]? = some (diceB nl l a)) (hle : a ≤ l.length) (hok : okH H.length H = true) (hx : 0 < xs.length ∧ xs.length ≤ 1000) :
    FOf [.ptr n 0 0 0, .sl nx (codInt.encL xs)] H = some (.v (.int .i64 (dOf xs l a)), H.set n (diceB nl l (dAt l a))) := by
  simp only [FOf, codInt.deL, Option.bind_some, hbl, diceOf_B hle, hok, true_and]
  rw [if_pos hx]
set_option maxRecDepth 10000 in
theorem spec_of : SpecH Tryd.prog GC 54 FOf := by
  refine specH_of (X := cxm N2 12 [0, 1, 4]) Tryd.func54 rfl rfl (cxm_ok N2_ok _ _) (fun m => ⟨rfl, rfl, rfl, rfl⟩) (fun m => by kernel_rfl) ?_
  intro args H r H' hr
  unfold FOf at hr
  split at hr
  · rename_i n nx rows
    simp only [Option.bind_eq_some_iff] at hr
    obtain ⟨xs, hx, bl, hbl, ⟨nl, l, a⟩, hd, hr⟩ := hr
    obtain ⟨rfl, hle⟩ := diceOf_inv hd
    have := codInt.edL _ _ hx
    subst this
    simp only at hle hr hbl
    clear hd hx
    split at hr
    · rename_i hc
      obtain ⟨hok, hx1, hx2⟩ := hc
      simp at hr
      obtain ⟨rfl, rfl⟩ := hr
      refine ⟨by simp [Tryd.ntmps54], by simp, fun hv => ?_⟩
      have hF := FNext_eq (k := (xs.length : Int)) hbl hle hok
      have hb : belH (H.set n (diceB nl l (dAt l a))).length (H.set n (diceB nl l (dAt l a))) = true := by
        rw [List.length_set]
        exact belH_ok (okH_set hok dice_bel)
      obtain ⟨q1, q2⟩ := dNext_lt (l := l) (a := a) (k := (xs.length : Int)) (by omega) (by omega)
      unfold dOf
      generalize dNext l a xs.length = q at *
      obtain ⟨j, rfl⟩ := Int.eq_ofNat_of_zero_le q1
      have hj : j < xs.length := by omega
      have hg : xs[j]? = some (xs.getD j 0) := by rw [List.getElem?_eq_getElem hj]; simp [List.getD, hj]
      rw [Int.toNat_natCast]
      simp only [hj, hF, hg, tl40, teL, taI, tsI, N2, Tryd.results54, cxm_P, cxm_G, cxm_E, cxm_keep, cxm_hd, cxm_m, awc_skip, awc_region, awc_regionD, awc_seq, awc_cond, awc_block, awc_loop, awc_exit, awc_ret, thenQ_normal, thenQ_ret, thenQ_exit, blockQ_normal, blockQ_ret, blockQ_exit, brC_bool, Br_true, Br_false, resQ_some, keepT_nil, keepT_cons, look_nil, look_cons, evOps_nil, evOps_cons, evOpsD_nil, evOpsD_cons, putT_some, putT_none, opC_tmp, opC_func, opC_int, opC_bool, opC_string, opC_slice, opC_agg, pickC, loadC, guardC, fieldV, idxV, indexV, sliceV, extractC, lenV, unC, cvC, storeC, evG_none, evG_some, evE_move, evE_assign, evE_pick, evE_nil, evE_box, evE_alloc, evE_load, evE_store, evE_fieldAddr, evE_field, evE_indexAddr, evE_index, evE_build, evE_buildSlice, evE_slice, evE_extract, evE_bin, evE_un, evE_convert, evE_len, evE_append, evE_callf, evE_callt, binC_v, bin_add, bin_sub, bin_mul, bin_lss, bin_leq, bin_gtr, bin_geq, bin_eql, bin_neq, bin_rem, bin_quo, un_not, argsT, List.map_cons, List.map_nil, reduceIte, Nat.reduceEqDiff, Nat.reduceAdd, cx_P, cx_G, cx_E, cx_keep, cx_hd, retQ_ret, resAll, resOne, packC, finV, finA, fin1, fin0, lenC, goInt, normC, Cod.len, Cod.get, List.getElem?_toArray, List.getElem?_cons_zero, List.getElem?_cons_succ, List.toList_toArray, evGD, Bool.or_true, Bool.true_or, ne_eq, not_true_eq_false, not_false_eq_true, decide_true, decide_false, decide_not, Bool.not_true, Bool.not_false, Int.natCast_inj, Int.ofNat_lt, Int.ofNat_le, and_true, true_and, and_self, Int.natCast_nonneg, Int.toNat_natCast, if_true, if_false, binC_agg, binC_sl, cellsV, codPair_enc, codInt_enc, codStr_enc, List.length_cons, List.length_nil, List.take_succ_cons, List.take_zero, List.take_nil, List.drop_zero, List.drop_succ_cons, Nat.le_refl, Nat.reduceLeDiff, List.head?_cons, Nat.zero_add, opC_global, idxC, evLoad, partC, liveB, storeH, overC, ptrCells, fieldC, fillC, buildC, bsC, chunkC, repC, boxC, nilC, newVarB, partAtC, idxA, List.zipIdx_cons, List.zipIdx_nil, List.set_cons_zero, List.set_cons_succ, List.all_cons, List.all_nil, C.deep, Bool.and_true, Bool.and_self, List.nil_append, List.cons_append, Nat.reduceMul, Nat.reduceSub, Nat.reduceLT, decide_eq_true_eq, Option.getD_some, Option.getD_none, List.mapM_nil, List.mapM_cons, Option.bind_eq_bind, Option.pure_def, ob_some, ob_none, om_some, om_none, kpL_nil, kpL_cons, khL_nil, khL_cons, mkE_kp, mkE_kh, mkE_vb, evCall, callee_func, viewA, viewC, viewP, appC, appH, ghostB, List.isEmpty_cons, List.isEmpty_nil, Bool.and_false, Bool.false_and, List.forall_mem_cons, List.mem_cons, forall_eq_or_imp, List.length_append, Prod.mk.injEq, Bool.not_eq_true, Bool.false_eq_true, List.mem_singleton, List.not_mem_nil, or_false, forall_eq, false_implies, implies_true, forall_const, isTup, belV, belA, belC, belP, belH, forgetB, reduceCtorEq, List.append_eq, obind_some, obind_none]
      exact retH_mk (by simp only [awc_skip, awc_region, awc_regionD, awc_seq, awc_cond, awc_block, awc_loop, awc_exit, awc_ret, thenQ_normal, thenQ_ret, thenQ_exit, blockQ_normal, blockQ_ret, blockQ_exit, brC_bool, Br_true, Br_false, resQ_some, keepT_nil, keepT_cons, look_nil, look_cons, evOps_nil, evOps_cons, evOpsD_nil, evOpsD_cons, putT_some, putT_none, opC_tmp, opC_func, opC_int, opC_bool, opC_string, opC_slice, opC_agg, pickC, loadC, guardC, fieldV, idxV, indexV, sliceV, extractC, lenV, unC, cvC, storeC, evG_none, evG_some, evE_move, evE_assign, evE_pick, evE_nil, evE_box, evE_alloc, evE_load, evE_store, evE_fieldAddr, evE_field, evE_indexAddr, evE_index, evE_build, evE_buildSlice, evE_slice, evE_extract, evE_bin, evE_un, evE_convert, evE_len, evE_append, evE_callf, evE_callt, binC_v, bin_add, bin_sub, bin_mul, bin_lss, bin_leq, bin_gtr, bin_geq, bin_eql, bin_neq, bin_rem, bin_quo, un_not, argsT, List.map_cons, List.map_nil, reduceIte, Nat.reduceEqDiff, Nat.reduceAdd, cx_P, cx_G, cx_E, cx_keep, cx_hd, retQ_ret, resAll, resOne, packC, finV, finA, fin1, fin0, lenC, goInt, normC, Cod.len, Cod.get, List.getElem?_toArray, List.getElem?_cons_zero, List.getElem?_cons_succ, List.toList_toArray, evGD, Bool.or_true, Bool.true_or, ne_eq, not_true_eq_false, not_false_eq_true, decide_true, decide_false, decide_not, Bool.not_true, Bool.not_false, Int.natCast_inj, Int.ofNat_lt, Int.ofNat_le, and_true, true_and, and_self, Int.natCast_nonneg, Int.toNat_natCast, if_true, if_false, binC_agg, binC_sl, cellsV, codPair_enc, codInt_enc, codStr_enc, List.length_cons, List.length_nil, List.take_succ_cons, List.take_zero, List.take_nil, List.drop_zero, List.drop_succ_cons, Nat.le_refl, Nat.reduceLeDiff, List.head?_cons, Nat.zero_add, opC_global, idxC, evLoad, partC, liveB, storeH, overC, ptrCells, fieldC, fillC, buildC, bsC, chunkC, repC, boxC, nilC, newVarB, partAtC, idxA, List.zipIdx_cons, List.zipIdx_nil, List.set_cons_zero, List.set_cons_succ, List.all_cons, List.all_nil, C.deep, Bool.and_true, Bool.and_self, List.nil_append, List.cons_append, Nat.reduceMul, Nat.reduceSub, Nat.reduceLT, decide_eq_true_eq, Option.getD_some, Option.getD_none, List.mapM_nil, List.mapM_cons, Option.bind_eq_bind, Option.pure_def, ob_some, ob_none, om_some, om_none, kpL_nil, kpL_cons, khL_nil, khL_cons, mkE_kp, mkE_kh, mkE_vb, evCall, callee_func, viewA, viewC, viewP, appC, appH, ghostB, List.isEmpty_cons, List.isEmpty_nil, Bool.and_false, Bool.false_and, List.forall_mem_cons, List.mem_cons, forall_eq_or_imp, List.length_append, Prod.mk.injEq, Bool.not_eq_true, Bool.false_eq_true, List.mem_singleton, List.not_mem_nil, or_false, forall_eq, false_implies, implies_true, forall_const, isTup, belV, belA, belC, belP, belH, forgetB, reduceCtorEq, List.append_eq, obind_some, obind_none]) rfl hb
    · cases hr
  · cases hr

def sizesOf (al : Int) : List Int :=
  if al = 5 ∨ al = 6 ∨ al = 10 ∨ al = 11 then [2048, 1024, 512, 3072, 1023, 4096, 16384]
  else if al = 7 ∨ al = 12 then [256, 160, 224, 384, 521]
  else if al = 9 then [65, 44, 87]
  else if al = 13 then [768, 512, 1024]
  else if al = 14 then [128, 40]
  else if al = 15 then [168, 112]
  else if al = 16 ∨ al = 17 then [128, 256]
  else []
/-- the size that is drawn, and where the dice are then -/
def dSize (al : Int) (l : List Int) (a : Nat) : Int × Nat := if (sizesOf al).length = 0 then (0, a) else (dOf (sizesOf al) l a, dAt l a)
theorem dSize_le {al : Int} {l : List Int} {a : Nat} (h : a ≤ l.length) : (dSize al l a).2 ≤ l.length := by
  unfold dSize
  split
  · exact h
  · exact dAt_le h
def FSize : List C → List Blk → Option (C × List Blk)
  | [.ptr n 0 0 0, .v (.int .i64 al)], H => (H[n]?).bind fun bl => (diceOf bl).bind fun d => if okH H.length H = true then some (.v (.int .i64 (dSize al d.2.1 d.2.2).1), H.set n (diceB d.1 d.2.1 (dSize al d.2.1 d.2.2).2)) else none
  | _, _ => none
theorem FSize_eq {H : List Blk} {n : Nat} {nl : Bool} {l : List Int} {a : Nat} {al : Int} (hbl : H[n]? = some (diceB nl l a)) (hle : a ≤ l.length) (hok : okH H.length H = true) :
    FSize [.ptr n 0 0 0, .v (.int .i64 al)] H = some (.v (.int .i64 (dSize al l a).1), H.set n (diceB nl l (dSize al l a).2)) := by
  simp [FSize, hbl, diceOf_B hle, hok]
noncomputable def N3 : Env := mkE [] [(54, FOf)]
theorem N3_ok : N3.OK Tryd.prog GC := mkE_ok (fun p h => by cases h) (by
  intro p h
  rcases List.mem_cons.1 h with rfl | h
  · exact spec_of
  · cases h)
set_option maxRecDepth 10000 in
set_option maxHeartbeats 2000000 in
theorem spec_size : SpecH Tryd.prog GC 47 FSize := by
  refine specH_of (X := cxm N3 46 [0, 1, 4, 5, 6, 14, 20, 25, 30, 35, 40]) Tryd.func47 rfl rfl (cxm_ok N3_ok _ _) (fun m => ⟨rfl, rfl, rfl, rfl⟩) (fun m => by kernel_rfl) ?_
  intro args H r H' hr
  unfold FSize at hr
  split at hr
  · rename_i n al
    simp only [Option.bind_eq_some_iff] at hr
    obtain ⟨bl, hbl, ⟨nl, l, a⟩, hd, hr⟩ := hr
    obtain ⟨rfl, hle⟩ := diceOf_inv hd
    simp only at hle hr hbl
    clear hd
    split at hr
    · rename_i hok
      simp at hr
      obtain ⟨rfl, rfl⟩ := hr
      refine ⟨by simp [Tryd.ntmps47], by simp, fun hv => ?_⟩
      have hb : ∀ a', belH (H.set n (diceB nl l a')).length (H.set n (diceB nl l a')) = true := fun a' => by
        rw [List.length_set]
        exact belH_ok (okH_set hok dice_bel)
      have hF := fun (xs : List Int) (hx : 0 < xs.length ∧ xs.length ≤ 1000) => FOf_eq (nx := false) (xs := xs) hbl hle hok hx
      unfold dSize
      by_cases hs : (sizesOf al).length = 0
      · rw [if_pos hs]
        simp only
        have hb1 := hb a
        have hss := set_same hbl
        rw [hss] at hb1 ⊢
        unfold sizesOf at hs
        have n5 : ¬ al = 5 := fun e => by subst e; simp at hs
        have n6 : ¬ al = 6 := fun e => by subst e; simp at hs
        have n7 : ¬ al = 7 := fun e => by subst e; simp at hs
        have n9 : ¬ al = 9 := fun e => by subst e; simp at hs
        have n10 : ¬ al = 10 := fun e => by subst e; simp at hs
        have n11 : ¬ al = 11 := fun e => by subst e; simp at hs
        have n12 : ¬ al = 12 := fun e => by subst e; simp at hs
        have n13 : ¬ al = 13 := fun e => by subst e; simp at hs
        have n14 : ¬ al = 14 := fun e => by subst e; simp at hs
        have n15 : ¬ al = 15 := fun e => by subst e; simp at hs
        have n16 : ¬ al = 16 := fun e => by subst e; simp at hs
        have n17 : ¬ al = 17 := fun e => by subst e; simp at hs
        simp only [n5, n6, n7, n9, n10, n11, n12, n13, n14, n15, n16, n17, N3, Tryd.results47, cxm_P, cxm_G, cxm_E, cxm_keep, cxm_hd, cxm_m, awc_skip, awc_region, awc_regionD, awc_seq, awc_cond, awc_block, awc_loop, awc_exit, awc_ret, thenQ_normal, thenQ_ret, thenQ_exit, blockQ_normal, blockQ_ret, blockQ_exit, brC_bool, Br_true, Br_false, resQ_some, keepT_nil, keepT_cons, look_nil, look_cons, evOps_nil, evOps_cons, evOpsD_nil, evOpsD_cons, putT_some, putT_none, opC_tmp, opC_func, opC_int, opC_bool, opC_string, opC_slice, opC_agg, pickC, loadC, guardC, fieldV, idxV, indexV, sliceV, extractC, lenV, unC, cvC, storeC, evG_none, evG_some, evE_move, evE_assign, evE_pick, evE_nil, evE_box, evE_alloc, evE_load, evE_store, evE_fieldAddr, evE_field, evE_indexAddr, evE_index, evE_build, evE_buildSlice, evE_slice, evE_extract, evE_bin, evE_un, evE_convert, evE_len, evE_append, evE_callf, evE_callt, binC_v, bin_add, bin_sub, bin_mul, bin_lss, bin_leq, bin_gtr, bin_geq, bin_eql, bin_neq, bin_rem, bin_quo, un_not, argsT, List.map_cons, List.map_nil, reduceIte, Nat.reduceEqDiff, Nat.reduceAdd, cx_P, cx_G, cx_E, cx_keep, cx_hd, retQ_ret, resAll, resOne, packC, finV, finA, fin1, fin0, lenC, goInt, normC, Cod.len, Cod.get, List.getElem?_toArray, List.getElem?_cons_zero, List.getElem?_cons_succ, List.toList_toArray, evGD, Bool.or_true, Bool.true_or, ne_eq, not_true_eq_false, not_false_eq_true, decide_true, decide_false, decide_not, Bool.not_true, Bool.not_false, Int.natCast_inj, Int.ofNat_lt, Int.ofNat_le, and_true, true_and, and_self, Int.natCast_nonneg, Int.toNat_natCast, if_true, if_false, binC_agg, binC_sl, cellsV, codPair_enc, codInt_enc, codStr_enc, List.length_cons, List.length_nil, List.take_succ_cons, List.take_zero, List.take_nil, List.drop_zero, List.drop_succ_cons, Nat.le_refl, Nat.reduceLeDiff, List.head?_cons, Nat.zero_add, opC_global, idxC, evLoad, partC, liveB, storeH, overC, ptrCells, fieldC, fillC, buildC, bsC, chunkC, repC, boxC, nilC, newVarB, partAtC, idxA, List.zipIdx_cons, List.zipIdx_nil, List.set_cons_zero, List.set_cons_succ, List.all_cons, List.all_nil, C.deep, Bool.and_true, Bool.and_self, List.nil_append, List.cons_append, Nat.reduceMul, Nat.reduceSub, Nat.reduceLT, decide_eq_true_eq, Option.getD_some, Option.getD_none, List.mapM_nil, List.mapM_cons, Option.bind_eq_bind, Option.pure_def, ob_some, ob_none, om_some, om_none, kpL_nil, kpL_cons, khL_nil, khL_cons, mkE_kp, mkE_kh, mkE_vb, evCall, callee_func, viewA, viewC, viewP, appC, appH, ghostB, List.isEmpty_cons, List.isEmpty_nil, Bool.and_false, Bool.false_and, List.forall_mem_cons, List.mem_cons, forall_eq_or_imp, List.length_append, Prod.mk.injEq, Bool.not_eq_true, Bool.false_eq_true, List.mem_singleton, List.not_mem_nil, or_false, forall_eq, false_implies, implies_true, forall_const, isTup, belV, belA, belC, belP, belH, forgetB, reduceCtorEq, List.append_eq, obind_some, obind_none]
        exact retH_mk (by simp only [awc_skip, awc_region, awc_regionD, awc_seq, awc_cond, awc_block, awc_loop, awc_exit, awc_ret, thenQ_normal, thenQ_ret, thenQ_exit, blockQ_normal, blockQ_ret, blockQ_exit, brC_bool, Br_true, Br_false, resQ_some, keepT_nil, keepT_cons, look_nil, look_cons, evOps_nil, evOps_cons, evOpsD_nil, evOpsD_cons, putT_some, putT_none, opC_tmp, opC_func, opC_int, opC_bool, opC_string, opC_slice, opC_agg, pickC, loadC, guardC, fieldV, idxV, indexV, sliceV, extractC, lenV, unC, cvC, storeC, evG_none, evG_some, evE_move, evE_assign, evE_pick, evE_nil, evE_box, evE_alloc, evE_load, evE_store, evE_fieldAddr, evE_field, evE_indexAddr, evE_index, evE_build, evE_buildSlice, evE_slice, evE_extract, evE_bin, evE_un, evE_convert, evE_len, evE_append, evE_callf, evE_callt, binC_v, bin_add, bin_sub, bin_mul, bin_lss, bin_leq, bin_gtr, bin_geq, bin_eql, bin_neq, bin_rem, bin_quo, un_not, argsT, List.map_cons, List.map_nil, reduceIte, Nat.reduceEqDiff, Nat.reduceAdd, cx_P, cx_G, cx_E, cx_keep, cx_hd, retQ_ret, resAll, resOne, packC, finV, finA, fin1, fin0, lenC, goInt, normC, Cod.len, Cod.get, List.getElem?_toArray, List.getElem?_cons_zero, List.getElem?_cons_succ, List.toList_toArray, evGD, Bool.or_true, Bool.true_or, ne_eq, not_true_eq_false, not_false_eq_true, decide_true, decide_false, decide_not, Bool.not_true, Bool.not_false, Int.natCast_inj, Int.ofNat_lt, Int.ofNat_le, and_true, true_and, and_self, Int.natCast_nonneg, Int.toNat_natCast, if_true, if_false, binC_agg, binC_sl, cellsV, codPair_enc, codInt_enc, codStr_enc, List.length_cons, List.length_nil, List.take_succ_cons, List.take_zero, List.take_nil, List.drop_zero, List.drop_succ_cons, Nat.le_refl, Nat.reduceLeDiff, List.head?_cons, Nat.zero_add, opC_global, idxC, evLoad, partC, liveB, storeH, overC, ptrCells, fieldC, fillC, buildC, bsC, chunkC, repC, boxC, nilC, newVarB, partAtC, idxA, List.zipIdx_cons, List.zipIdx_nil, List.set_cons_zero, List.set_cons_succ, List.all_cons, List.all_nil, C.deep, Bool.and_true, Bool.and_self, List.nil_append, List.cons_append, Nat.reduceMul, Nat.reduceSub, Nat.reduceLT, decide_eq_true_eq, Option.getD_some, Option.getD_none, List.mapM_nil, List.mapM_cons, Option.bind_eq_bind, Option.pure_def, ob_some, ob_none, om_some, om_none, kpL_nil, kpL_cons, khL_nil, khL_cons, mkE_kp, mkE_kh, mkE_vb, evCall, callee_func, viewA, viewC, viewP, appC, appH, ghostB, List.isEmpty_cons, List.isEmpty_nil, Bool.and_false, Bool.false_and, List.forall_mem_cons, List.mem_cons, forall_eq_or_imp, List.length_append, Prod.mk.injEq, Bool.not_eq_true, Bool.false_eq_true, List.mem_singleton, List.not_mem_nil, or_false, forall_eq, false_implies, implies_true, forall_const, isTup, belV, belA, belC, belP, belH, forgetB, reduceCtorEq, List.append_eq, obind_some, obind_none]) rfl hb1
      · rw [if_neg hs]
        simp only
        have hb1 := hb (dAt l a)
        have hc : al = 5 ∨ al = 6 ∨ al = 10 ∨ al = 11 ∨ al = 7 ∨ al = 12 ∨ al = 9 ∨ al = 13 ∨ al = 14 ∨ al = 15 ∨ al = 16 ∨ al = 17 := by
          refine Classical.byContradiction fun hn => hs ?_
          simp only [not_or] at hn
          simp [sizesOf, hn]
        have f1 := hF [2048, 1024, 512, 3072, 1023, 4096, 16384] (by decide)
        have f2 := hF [256, 160, 224, 384, 521] (by decide)
        have f3 := hF [65, 44, 87] (by decide)
        have f4 := hF [768, 512, 1024] (by decide)
        have f5 := hF [128, 40] (by decide)
        have f6 := hF [168, 112] (by decide)
        have f7 := hF [128, 256] (by decide)
        simp only [Cod.encL, List.map_cons, List.map_nil, codInt_enc] at f1 f2 f3 f4 f5 f6 f7
        rcases hc with rfl | rfl | rfl | rfl | rfl | rfl | rfl | rfl | rfl | rfl | rfl | rfl <;>
        · simp only [sizesOf, Int.reduceEq, or_self, or_true, true_or, f1, f2, f3, f4, f5, f6, f7, tzI, tl40, teL, taI, tsI, N3, Tryd.results47, cxm_P, cxm_G, cxm_E, cxm_keep, cxm_hd, cxm_m, awc_skip, awc_region, awc_regionD, awc_seq, awc_cond, awc_block, awc_loop, awc_exit, awc_ret, thenQ_normal, thenQ_ret, thenQ_exit, blockQ_normal, blockQ_ret, blockQ_exit, brC_bool, Br_true, Br_false, resQ_some, keepT_nil, keepT_cons, look_nil, look_cons, evOps_nil, evOps_cons, evOpsD_nil, evOpsD_cons, putT_some, putT_none, opC_tmp, opC_func, opC_int, opC_bool, opC_string, opC_slice, opC_agg, pickC, loadC, guardC, fieldV, idxV, indexV, sliceV, extractC, lenV, unC, cvC, storeC, evG_none, evG_some, evE_move, evE_assign, evE_pick, evE_nil, evE_box, evE_alloc, evE_load, evE_store, evE_fieldAddr, evE_field, evE_indexAddr, evE_index, evE_build, evE_buildSlice, evE_slice, evE_extract, evE_bin, evE_un, evE_convert, evE_len, evE_append, evE_callf, evE_callt, binC_v, bin_add, bin_sub, bin_mul, bin_lss, bin_leq, bin_gtr, bin_geq, bin_eql, bin_neq, bin_rem, bin_quo, un_not, argsT, List.map_cons, List.map_nil, reduceIte, Nat.reduceEqDiff, Nat.reduceAdd, cx_P, cx_G, cx_E, cx_keep, cx_hd, retQ_ret, resAll, resOne, packC, finV, finA, fin1, fin0, lenC, goInt, normC, Cod.len, Cod.get, List.getElem?_toArray, List.getElem?_cons_zero, List.getElem?_cons_succ, List.toList_toArray, evGD, Bool.or_true, Bool.true_or, ne_eq, not_true_eq_false, not_false_eq_true, decide_true, decide_false, decide_not, Bool.not_true, Bool.not_false, Int.natCast_inj, Int.ofNat_lt, Int.ofNat_le, and_true, true_and, and_self, Int.natCast_nonneg, Int.toNat_natCast, if_true, if_false, binC_agg, binC_sl, cellsV, codPair_enc, codInt_enc, codStr_enc, List.length_cons, List.length_nil, List.take_succ_cons, List.take_zero, List.take_nil, List.drop_zero, List.drop_succ_cons, Nat.le_refl, Nat.reduceLeDiff, List.head?_cons, Nat.zero_add, opC_global, idxC, evLoad, partC, liveB, storeH, overC, ptrCells, fieldC, fillC, buildC, bsC, chunkC, repC, boxC, nilC, newVarB, partAtC, idxA, List.zipIdx_cons, List.zipIdx_nil, List.set_cons_zero, List.set_cons_succ, List.all_cons, List.all_nil, C.deep, Bool.and_true, Bool.and_self, List.nil_append, List.cons_append, Nat.reduceMul, Nat.reduceSub, Nat.reduceLT, decide_eq_true_eq, Option.getD_some, Option.getD_none, List.mapM_nil, List.mapM_cons, Option.bind_eq_bind, Option.pure_def, ob_some, ob_none, om_some, om_none, kpL_nil, kpL_cons, khL_nil, khL_cons, mkE_kp, mkE_kh, mkE_vb, evCall, callee_func, viewA, viewC, viewP, appC, appH, ghostB, List.isEmpty_cons, List.isEmpty_nil, Bool.and_false, Bool.false_and, List.forall_mem_cons, List.mem_cons, forall_eq_or_imp, List.length_append, Prod.mk.injEq, Bool.not_eq_true, Bool.false_eq_true, List.mem_singleton, List.not_mem_nil, or_false, forall_eq, false_implies, implies_true, forall_const, isTup, belV, belA, belC, belP, belH, forgetB, reduceCtorEq, List.append_eq, obind_some, obind_none]
          exact retH_mk (by simp only [awc_skip, awc_region, awc_regionD, awc_seq, awc_cond, awc_block, awc_loop, awc_exit, awc_ret, thenQ_normal, thenQ_ret, thenQ_exit, blockQ_normal, blockQ_ret, blockQ_exit, brC_bool, Br_true, Br_false, resQ_some, keepT_nil, keepT_cons, look_nil, look_cons, evOps_nil, evOps_cons, evOpsD_nil, evOpsD_cons, putT_some, putT_none, opC_tmp, opC_func, opC_int, opC_bool, opC_string, opC_slice, opC_agg, pickC, loadC, guardC, fieldV, idxV, indexV, sliceV, extractC, lenV, unC, cvC, storeC, evG_none, evG_some, evE_move, evE_assign, evE_pick, evE_nil, evE_box, evE_alloc, evE_load, evE_store, evE_fieldAddr, evE_field, evE_indexAddr, evE_index, evE_build, evE_buildSlice, evE_slice, evE_extract, evE_bin, evE_un, evE_convert, evE_len, evE_append, evE_callf, evE_callt, binC_v, bin_add, bin_sub, bin_mul, bin_lss, bin_leq, bin_gtr, bin_geq, bin_eql, bin_neq, bin_rem, bin_quo, un_not, argsT, List.map_cons, List.map_nil, reduceIte, Nat.reduceEqDiff, Nat.reduceAdd, cx_P, cx_G, cx_E, cx_keep, cx_hd, retQ_ret, resAll, resOne, packC, finV, finA, fin1, fin0, lenC, goInt, normC, Cod.len, Cod.get, List.getElem?_toArray, List.getElem?_cons_zero, List.getElem?_cons_succ, List.toList_toArray, evGD, Bool.or_true, Bool.true_or, ne_eq, not_true_eq_false, not_false_eq_true, decide_true, decide_false, decide_not, Bool.not_true, Bool.not_false, Int.natCast_inj, Int.ofNat_lt, Int.ofNat_le, and_true, true_and, and_self, Int.natCast_nonneg, Int.toNat_natCast, if_true, if_false, binC_agg, binC_sl, cellsV, codPair_enc, codInt_enc, codStr_enc, List.length_cons, List.length_nil, List.take_succ_cons, List.take_zero, List.take_nil, List.drop_zero, List.drop_succ_cons, Nat.le_refl, Nat.reduceLeDiff, List.head?_cons, Nat.zero_add, opC_global, idxC, evLoad, partC, liveB, storeH, overC, ptrCells, fieldC, fillC, buildC, bsC, chunkC, repC, boxC, nilC, newVarB, partAtC, idxA, List.zipIdx_cons, List.zipIdx_nil, List.set_cons_zero, List.set_cons_succ, List.all_cons, List.all_nil, C.deep, Bool.and_true, Bool.and_self, List.nil_append, List.cons_append, Nat.reduceMul, Nat.reduceSub, Nat.reduceLT, decide_eq_true_eq, Option.getD_some, Option.getD_none, List.mapM_nil, List.mapM_cons, Option.bind_eq_bind, Option.pure_def, ob_some, ob_none, om_some, om_none, kpL_nil, kpL_cons, khL_nil, khL_cons, mkE_kp, mkE_kh, mkE_vb, evCall, callee_func, viewA, viewC, viewP, appC, appH, ghostB, List.isEmpty_cons, List.isEmpty_nil, Bool.and_false, Bool.false_and, List.forall_mem_cons, List.mem_cons, forall_eq_or_imp, List.length_append, Prod.mk.injEq, Bool.not_eq_true, Bool.false_eq_true, List.mem_singleton, List.not_mem_nil, or_false, forall_eq, false_implies, implies_true, forall_const, isTup, belV, belA, belC, belP, belH, forgetB, reduceCtorEq, List.append_eq, obind_some, obind_none]) rfl hb1
    · cases hr
  · cases hr

/-- the use that is drawn, and where the dice are then -/
def dUse (l : List Int) (a : Nat) : Int × Int × Nat := (1 + dNext l a 22, (dSize (1 + dNext l a 22) l (dAt l a)).1, (dSize (1 + dNext l a 22) l (dAt l a)).2)
theorem dUse_le {l : List Int} {a : Nat} (h : a ≤ l.length) : (dUse l a).2.2 ≤ l.length := dSize_le (dAt_le h)
def FUseD : List C → List Blk → Option (C × List Blk)
  | [.ptr n 0 0 0], H => (H[n]?).bind fun bl => (diceOf bl).bind fun d => if okH H.length H = true then some (.agg [.v (.int .i64 (dUse d.2.1 d.2.2).1), .v (.int .i64 (dUse d.2.1 d.2.2).2.1)], H.set n (diceB d.1 d.2.1 (dUse d.2.1 d.2.2).2.2)) else none
  | _, _ => none
theorem FUseD_eq {H : List Blk} {n : Nat} {nl : Bool} {l : List Int} {a : Nat} (hbl : H[n]? = some (diceB nl l a)) (hle : a ≤ l.length) (hok : okH H.length H = true) :
    FUseD [.ptr n 0 0 0] H = some (.agg [.v (.int .i64 (dUse l a).1), .v (.int .i64 (dUse l a).2.1)], H.set n (diceB nl l (dUse l a).2.2)) := by
  simp [FUseD, hbl, diceOf_B hle, hok]
noncomputable def N4 : Env := mkE [] [(46, FNext), (47, FSize)]
theorem N4_ok : N4.OK Tryd.prog GC := mkE_ok (fun p h => by cases h) (by
  intro p h
  rcases List.mem_cons.1 h with rfl | h
  · exact spec_next
  rcases List.mem_cons.1 h with rfl | h
  · exact spec_size
  · cases h)
theorem tzU : tzero Tryd.prog 23 = some [.int .i64 0, .int .i64 0] := by kernel_rfl
theorem tpU : tplaces Tryd.prog 23 = some [(0, 1), (1, 1)] := by kernel_rfl
theorem tsU : tsize Tryd.prog 23 = some 2 := by kernel_rfl
theorem taU : tagg Tryd.prog 23 = some true := by kernel_rfl
set_option maxRecDepth 10000 in
theorem spec_use_d : SpecH Tryd.prog GC 30 FUseD := by
  refine specH_of (X := cxm N4 12 [0, 2, 3]) Tryd.func30 rfl rfl (cxm_ok N4_ok _ _) (fun m => ⟨rfl, rfl, rfl, rfl⟩) (fun m => by kernel_rfl) ?_
  intro args H r H' hr
  unfold FUseD at hr
  split at hr
  · rename_i n
    simp only [Option.bind_eq_some_iff] at hr
    obtain ⟨bl, hbl, ⟨nl, l, a⟩, hd, hr⟩ := hr
    obtain ⟨rfl, hle⟩ := diceOf_inv hd
    simp only at hle hr hbl
    clear hd
    split at hr
    · rename_i hok
      simp at hr
      obtain ⟨rfl, rfl⟩ := hr
      refine ⟨by simp [Tryd.ntmps30], by simp, fun hv => ?_⟩
      have hnH : n < H.length := (List.getElem?_eq_some_iff.1 hbl).1
      have hb : belH (H.set n (diceB nl l (dUse l a).2.2)).length (H.set n (diceB nl l (dUse l a).2.2)) = true := by
        rw [List.length_set]
        exact belH_ok (okH_set hok dice_bel)
      have hz : belBlk (H ++ [newVarB 23 [.v (.int .i64 0), .v (.int .i64 0)]]).length (newVarB 23 [.v (.int .i64 0), .v (.int .i64 0)]) = true := by simp [belBlk, newVarB, belC, belP]
      have ok1 := okH_snoc hok hz
      have g1 : (H ++ [newVarB 23 [.v (.int .i64 0), .v (.int .i64 0)]])[n]? = some (diceB nl l a) := by rw [List.getElem?_append_left hnH]; exact hbl
      have F1 := FNext_eq (k := 22) g1 hle ok1
      have e1 : (H ++ [newVarB 23 [.v (.int .i64 0), .v (.int .i64 0)]]).set n (diceB nl l (dAt l a)) = H.set n (diceB nl l (dAt l a)) ++ [newVarB 23 [.v (.int .i64 0), .v (.int .i64 0)]] := List.set_append_left _ _ hnH
      rw [e1] at F1
      have g2 : (H.set n (diceB nl l (dAt l a)) ++ [newVarB 23 [.v (.int .i64 0), .v (.int .i64 0)]])[n]? = some (diceB nl l (dAt l a)) := by
        rw [List.getElem?_append_left (by rw [List.length_set]; exact hnH), List.getElem?_set_self hnH]
      have ok2 : okH (H.set n (diceB nl l (dAt l a)) ++ [newVarB 23 [.v (.int .i64 0), .v (.int .i64 0)]]).length (H.set n (diceB nl l (dAt l a)) ++ [newVarB 23 [.v (.int .i64 0), .v (.int .i64 0)]]) = true := by
        rw [← e1, List.length_set]
        exact okH_set ok1 dice_bel
      have F2 := FSize_eq (al := 1 + dNext l a 22) g2 (dAt_le hle) ok2
      have e2 : (H.set n (diceB nl l (dAt l a)) ++ [newVarB 23 [.v (.int .i64 0), .v (.int .i64 0)]]).set n (diceB nl l (dSize (1 + dNext l a 22) l (dAt l a)).2) = H.set n (diceB nl l (dSize (1 + dNext l a 22) l (dAt l a)).2) ++ [newVarB 23 [.v (.int .i64 0), .v (.int .i64 0)]] := by
        rw [List.set_append_left _ _ (by rw [List.length_set]; exact hnH), List.set_set]
      rw [e2] at F2
      have hlen : ∀ x, (H.set n x).length = H.length := fun x => List.length_set
      have gz : ∀ x (b : Blk), (H.set n x ++ [b])[H.length]? = some b := fun x b => by
        rw [List.getElem?_append_right (by rw [hlen]; exact Nat.le_refl _), hlen, Nat.sub_self]; rfl
      have sz : ∀ x (b b' : Blk), (H.set n x ++ [b]).set H.length b' = H.set n x ++ [b'] := fun x b b' => by
        rw [List.set_append_right _ _ (by rw [hlen]; exact Nat.le_refl _), hlen, Nat.sub_self]; rfl
      obtain ⟨q1, q2⟩ := dNext_lt (l := l) (a := a) (k := 22) (by decide) (by decide)
      have hw : IntKind.i64.wrap (1 + dNext l a 22) = 1 + dNext l a 22 := wrap_i64 (by omega) (by omega)
      unfold dUse at hb ⊢
      simp only at hb ⊢
      generalize hD : diceB nl l (dSize (1 + dNext l a 22) l (dAt l a)).2 = D at *
      generalize hD1 : diceB nl l (dAt l a) = D1 at *
      unfold newVarB at F1 F2
      simp only [List.length_cons, List.length_nil, Nat.zero_add, Nat.reduceAdd] at F1 F2
      simp only [F1, F2, gz, sz, hw, tzU, tpU, tsU, taU, N4, Tryd.results30, cxm_P, cxm_G, cxm_E, cxm_keep, cxm_hd, cxm_m, awc_skip, awc_region, awc_regionD, awc_seq, awc_cond, awc_block, awc_loop, awc_exit, awc_ret, thenQ_normal, thenQ_ret, thenQ_exit, blockQ_normal, blockQ_ret, blockQ_exit, brC_bool, Br_true, Br_false, resQ_some, keepT_nil, keepT_cons, look_nil, look_cons, evOps_nil, evOps_cons, evOpsD_nil, evOpsD_cons, putT_some, putT_none, opC_tmp, opC_func, opC_int, opC_bool, opC_string, opC_slice, opC_agg, pickC, loadC, guardC, fieldV, idxV, indexV, sliceV, extractC, lenV, unC, cvC, storeC, evG_none, evG_some, evE_move, evE_assign, evE_pick, evE_nil, evE_box, evE_alloc, evE_load, evE_store, evE_fieldAddr, evE_field, evE_indexAddr, evE_index, evE_build, evE_buildSlice, evE_slice, evE_extract, evE_bin, evE_un, evE_convert, evE_len, evE_append, evE_callf, evE_callt, binC_v, bin_add, bin_sub, bin_mul, bin_lss, bin_leq, bin_gtr, bin_geq, bin_eql, bin_neq, bin_rem, bin_quo, un_not, argsT, List.map_cons, List.map_nil, reduceIte, Nat.reduceEqDiff, Nat.reduceAdd, cx_P, cx_G, cx_E, cx_keep, cx_hd, retQ_ret, resAll, resOne, packC, finV, finA, fin1, fin0, lenC, goInt, normC, Cod.len, Cod.get, List.getElem?_toArray, List.getElem?_cons_zero, List.getElem?_cons_succ, List.toList_toArray, evGD, Bool.or_true, Bool.true_or, ne_eq, not_true_eq_false, not_false_eq_true, decide_true, decide_false, decide_not, Bool.not_true, Bool.not_false, Int.natCast_inj, Int.ofNat_lt, Int.ofNat_le, and_true, true_and, and_self, Int.natCast_nonneg, Int.toNat_natCast, if_true, if_false, binC_agg, binC_sl, cellsV, codPair_enc, codInt_enc, codStr_enc, List.length_cons, List.length_nil, List.take_succ_cons, List.take_zero, List.take_nil, List.drop_zero, List.drop_succ_cons, Nat.le_refl, Nat.reduceLeDiff, List.head?_cons, Nat.zero_add, opC_global, idxC, evLoad, partC, liveB, storeH, overC, ptrCells, fieldC, fillC, buildC, bsC, chunkC, repC, boxC, nilC, newVarB, partAtC, idxA, List.zipIdx_cons, List.zipIdx_nil, List.set_cons_zero, List.set_cons_succ, List.all_cons, List.all_nil, C.deep, Bool.and_true, Bool.and_self, List.nil_append, List.cons_append, Nat.reduceMul, Nat.reduceSub, Nat.reduceLT, decide_eq_true_eq, Option.getD_some, Option.getD_none, List.mapM_nil, List.mapM_cons, Option.bind_eq_bind, Option.pure_def, ob_some, ob_none, om_some, om_none, kpL_nil, kpL_cons, khL_nil, khL_cons, mkE_kp, mkE_kh, mkE_vb, evCall, callee_func, viewA, viewC, viewP, appC, appH, ghostB, List.isEmpty_cons, List.isEmpty_nil, Bool.and_false, Bool.false_and, List.forall_mem_cons, List.mem_cons, forall_eq_or_imp, List.length_append, Prod.mk.injEq, Bool.not_eq_true, Bool.false_eq_true, List.mem_singleton, List.not_mem_nil, or_false, forall_eq, false_implies, implies_true, forall_const, isTup, belV, belA, belC, belP, belH, forgetB, reduceCtorEq, List.append_eq, obind_some, obind_none]
      refine retH_more ?_ rfl hb
      simp only [gz, taU, tsU, awc_skip, awc_region, awc_regionD, awc_seq, awc_cond, awc_block, awc_loop, awc_exit, awc_ret, thenQ_normal, thenQ_ret, thenQ_exit, blockQ_normal, blockQ_ret, blockQ_exit, brC_bool, Br_true, Br_false, resQ_some, keepT_nil, keepT_cons, look_nil, look_cons, evOps_nil, evOps_cons, evOpsD_nil, evOpsD_cons, putT_some, putT_none, opC_tmp, opC_func, opC_int, opC_bool, opC_string, opC_slice, opC_agg, pickC, loadC, guardC, fieldV, idxV, indexV, sliceV, extractC, lenV, unC, cvC, storeC, evG_none, evG_some, evE_move, evE_assign, evE_pick, evE_nil, evE_box, evE_alloc, evE_load, evE_store, evE_fieldAddr, evE_field, evE_indexAddr, evE_index, evE_build, evE_buildSlice, evE_slice, evE_extract, evE_bin, evE_un, evE_convert, evE_len, evE_append, evE_callf, evE_callt, binC_v, bin_add, bin_sub, bin_mul, bin_lss, bin_leq, bin_gtr, bin_geq, bin_eql, bin_neq, bin_rem, bin_quo, un_not, argsT, List.map_cons, List.map_nil, reduceIte, Nat.reduceEqDiff, Nat.reduceAdd, cx_P, cx_G, cx_E, cx_keep, cx_hd, retQ_ret, resAll, resOne, packC, finV, finA, fin1, fin0, lenC, goInt, normC, Cod.len, Cod.get, List.getElem?_toArray, List.getElem?_cons_zero, List.getElem?_cons_succ, List.toList_toArray, evGD, Bool.or_true, Bool.true_or, ne_eq, not_true_eq_false, not_false_eq_true, decide_true, decide_false, decide_not, Bool.not_true, Bool.not_false, Int.natCast_inj, Int.ofNat_lt, Int.ofNat_le, and_true, true_and, and_self, Int.natCast_nonneg, Int.toNat_natCast, if_true, if_false, binC_agg, binC_sl, cellsV, codPair_enc, codInt_enc, codStr_enc, List.length_cons, List.length_nil, List.take_succ_cons, List.take_zero, List.take_nil, List.drop_zero, List.drop_succ_cons, Nat.le_refl, Nat.reduceLeDiff, List.head?_cons, Nat.zero_add, opC_global, idxC, evLoad, partC, liveB, storeH, overC, ptrCells, fieldC, fillC, buildC, bsC, chunkC, repC, boxC, nilC, newVarB, partAtC, idxA, List.zipIdx_cons, List.zipIdx_nil, List.set_cons_zero, List.set_cons_succ, List.all_cons, List.all_nil, C.deep, Bool.and_true, Bool.and_self, List.nil_append, List.cons_append, Nat.reduceMul, Nat.reduceSub, Nat.reduceLT, decide_eq_true_eq, Option.getD_some, Option.getD_none, List.mapM_nil, List.mapM_cons, Option.bind_eq_bind, Option.pure_def, ob_some, ob_none, om_some, om_none, kpL_nil, kpL_cons, khL_nil, khL_cons, mkE_kp, mkE_kh, mkE_vb, evCall, callee_func, viewA, viewC, viewP, appC, appH, ghostB, List.isEmpty_cons, List.isEmpty_nil, Bool.and_false, Bool.false_and, List.forall_mem_cons, List.mem_cons, forall_eq_or_imp, List.length_append, Prod.mk.injEq, Bool.not_eq_true, Bool.false_eq_true, List.mem_singleton, List.not_mem_nil, or_false, forall_eq, false_implies, implies_true, forall_const, isTup, belV, belA, belC, belP, belH, forgetB, reduceCtorEq, List.append_eq, obind_some, obind_none]
    · cases hr
  · cases hr
end Go.Proofs.YtiognfhjmcbbpaaDoor.Ev

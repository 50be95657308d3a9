import Derived.Test.YtiognfhjmcbbpaaDoorEvH
namespace Go.Proofs.YtiognfhjmcbbpaaDoor.Ev
open Go.RowKit
set_option linter.unusedSimpArgs false
set_option linter.unusedVariables false

/-! ## Dice, told of readings -/

noncomputable def cxm (E : Env) (nt : Nat) (keep : List Nat) (m : Nat) : Ctx := { P := Tryd.prog, G := GC, E, nt, m := m, hd := fun _ _ => true, keep }
section
variable {E : Env} {nt m : Nat} {keep : List Nat}
theorem cxm_ok (h : E.OK Tryd.prog GC) (nt : Nat) (keep : List Nat) (m : Nat) : (cxm E nt keep m).OK := ⟨h, by kernel_rfl⟩
theorem cxm_P : (cxm E nt keep m).P = Tryd.prog := rfl
theorem cxm_G : (cxm E nt keep m).G = GC := rfl
theorem cxm_E : (cxm E nt keep m).E = E := rfl
theorem cxm_keep : (cxm E nt keep m).keep = keep := rfl
theorem cxm_hd {i j : Nat} : (cxm E nt keep m).hd i j = true := rfl
theorem cxm_m : (cxm E nt keep m).m = m := rfl
end
noncomputable def N0 : Env := mkE [] []
theorem N0_ok : N0.OK Tryd.prog GC := mkE_ok (fun p h => by cases h) (fun p h => by cases h)

/-- A block whose cells hold no handle that is greater. -/
def belBlk (m : Nat) (bl : Blk) : Bool := bl.row || bl.rows.all (fun r => r.all (belC m))
def okH (m : Nat) (H : List Blk) : Bool := H.all (belBlk m)
theorem belH_ok {m : Nat} {H : List Blk} (h : okH m H = true) : belH m H = true := by
  unfold belH
  unfold okH at h
  rw [List.all_eq_true] at h ⊢
  intro b hb
  exact h b (List.mem_of_mem_take hb)
theorem okH_set {m : Nat} {H : List Blk} (h : okH m H = true) {n : Nat} {b : Blk} (hb : belBlk m b = true) : okH m (H.set n b) = true := by
  unfold okH at h ⊢
  rw [List.all_eq_true] at h ⊢
  intro x hx
  rcases List.mem_or_eq_of_mem_set hx with h1 | rfl
  · exact h x h1
  · exact hb

def modF (n k : Int) : Int := if k < 1 then 0 else (IntKind.i64.wrap (n.tmod k + k)).tmod k
def FMod : List C → Option C
  | [.v (.int .i64 n), .v (.int .i64 k)] => some (.v (.int .i64 (modF n k)))
  | _ => none
theorem spec_mod : SpecP Tryd.prog GC 27 FMod := by
  refine specP_of (X := cx N0 14 [0, 1, 4, 6]) (cx_ok N0_ok _ _) rfl Tryd.func27 rfl rfl rfl (by kernel_rfl) ?_
  intro args r hr
  unfold FMod at hr
  split at hr
  · rename_i n k
    simp at hr
    subst hr
    refine ⟨by simp [cx], rfl, fun _ => ?_⟩
    by_cases h : k < 1
    · simp only [h, Tryd.results27, awc_skip, awc_region, awc_regionD, awc_seq, awc_cond, awc_block, awc_loop, awc_exit, awc_ret, thenQ_normal, thenQ_ret, thenQ_exit, blockQ_normal, blockQ_ret, blockQ_exit, brC_bool, Br_true, Br_false, resQ_some, keepT_nil, keepT_cons, look_nil, look_cons, evOps_nil, evOps_cons, evOpsD_nil, evOpsD_cons, putT_some, putT_none, opC_tmp, opC_func, opC_int, opC_bool, opC_string, opC_slice, opC_agg, pickC, loadC, guardC, fieldV, idxV, indexV, sliceV, extractC, lenV, unC, cvC, storeC, evG_none, evG_some, evE_move, evE_assign, evE_pick, evE_nil, evE_box, evE_alloc, evE_load, evE_store, evE_fieldAddr, evE_field, evE_indexAddr, evE_index, evE_build, evE_buildSlice, evE_slice, evE_extract, evE_bin, evE_un, evE_convert, evE_len, evE_append, evE_callf, evE_callt, binC_v, bin_add, bin_sub, bin_mul, bin_lss, bin_leq, bin_gtr, bin_geq, bin_eql, bin_neq, bin_rem, bin_quo, un_not, argsT, List.map_cons, List.map_nil, reduceIte, Nat.reduceEqDiff, Nat.reduceAdd, cx_P, cx_G, cx_E, cx_keep, cx_hd, retQ_ret, resAll, resOne, packC, finV, finA, fin1, fin0, lenC, goInt, normC, Cod.len, Cod.get, List.getElem?_toArray, List.getElem?_cons_zero, List.getElem?_cons_succ, List.toList_toArray, evGD, Bool.or_true, Bool.true_or, ne_eq, not_true_eq_false, not_false_eq_true, decide_true, decide_false, decide_not, Bool.not_true, Bool.not_false, Int.natCast_inj, Int.ofNat_lt, Int.ofNat_le, and_true, true_and, and_self, Int.natCast_nonneg, Int.toNat_natCast, if_true, if_false, binC_agg, binC_sl, cellsV, codPair_enc, codInt_enc, codStr_enc, List.length_cons, List.length_nil, List.take_succ_cons, List.take_zero, List.take_nil, List.drop_zero, List.drop_succ_cons, Nat.le_refl, Nat.reduceLeDiff, List.head?_cons, Nat.zero_add, opC_global, idxC, evLoad, partC, liveB, storeH, overC, ptrCells, fieldC, fillC, buildC, bsC, chunkC, repC, boxC, nilC, newVarB, partAtC, idxA, List.zipIdx_cons, List.zipIdx_nil, List.set_cons_zero, List.set_cons_succ, List.all_cons, List.all_nil, C.deep, Bool.and_true, Bool.and_self, List.nil_append, List.cons_append, Nat.reduceMul, Nat.reduceSub, Nat.reduceLT, decide_eq_true_eq, Option.getD_some, Option.getD_none, List.mapM_nil, List.mapM_cons, Option.bind_eq_bind, Option.pure_def, ob_some, ob_none, om_some, om_none, kpL_nil, kpL_cons, khL_nil, khL_cons, mkE_kp, mkE_kh, mkE_vb, evCall, callee_func, viewA, viewC, viewP, appC, appH, ghostB, List.isEmpty_cons, List.isEmpty_nil, Bool.and_false, Bool.false_and, List.forall_mem_cons, List.mem_cons, forall_eq_or_imp, List.length_append, Prod.mk.injEq, Bool.not_eq_true, Bool.false_eq_true, List.mem_singleton, List.not_mem_nil, or_false, forall_eq, false_implies, implies_true, forall_const, isTup, belV, belA, belC, belP, belH, forgetB, reduceCtorEq, List.append_eq, obind_some, obind_none]
      simp [modF, h]
    · have hk : k ≠ 0 := by omega
      simp only [h, hk, Tryd.results27, awc_skip, awc_region, awc_regionD, awc_seq, awc_cond, awc_block, awc_loop, awc_exit, awc_ret, thenQ_normal, thenQ_ret, thenQ_exit, blockQ_normal, blockQ_ret, blockQ_exit, brC_bool, Br_true, Br_false, resQ_some, keepT_nil, keepT_cons, look_nil, look_cons, evOps_nil, evOps_cons, evOpsD_nil, evOpsD_cons, putT_some, putT_none, opC_tmp, opC_func, opC_int, opC_bool, opC_string, opC_slice, opC_agg, pickC, loadC, guardC, fieldV, idxV, indexV, sliceV, extractC, lenV, unC, cvC, storeC, evG_none, evG_some, evE_move, evE_assign, evE_pick, evE_nil, evE_box, evE_alloc, evE_load, evE_store, evE_fieldAddr, evE_field, evE_indexAddr, evE_index, evE_build, evE_buildSlice, evE_slice, evE_extract, evE_bin, evE_un, evE_convert, evE_len, evE_append, evE_callf, evE_callt, binC_v, bin_add, bin_sub, bin_mul, bin_lss, bin_leq, bin_gtr, bin_geq, bin_eql, bin_neq, bin_rem, bin_quo, un_not, argsT, List.map_cons, List.map_nil, reduceIte, Nat.reduceEqDiff, Nat.reduceAdd, cx_P, cx_G, cx_E, cx_keep, cx_hd, retQ_ret, resAll, resOne, packC, finV, finA, fin1, fin0, lenC, goInt, normC, Cod.len, Cod.get, List.getElem?_toArray, List.getElem?_cons_zero, List.getElem?_cons_succ, List.toList_toArray, evGD, Bool.or_true, Bool.true_or, ne_eq, not_true_eq_false, not_false_eq_true, decide_true, decide_false, decide_not, Bool.not_true, Bool.not_false, Int.natCast_inj, Int.ofNat_lt, Int.ofNat_le, and_true, true_and, and_self, Int.natCast_nonneg, Int.toNat_natCast, if_true, if_false, binC_agg, binC_sl, cellsV, codPair_enc, codInt_enc, codStr_enc, List.length_cons, List.length_nil, List.take_succ_cons, List.take_zero, List.take_nil, List.drop_zero, List.drop_succ_cons, Nat.le_refl, Nat.reduceLeDiff, List.head?_cons, Nat.zero_add, opC_global, idxC, evLoad, partC, liveB, storeH, overC, ptrCells, fieldC, fillC, buildC, bsC, chunkC, repC, boxC, nilC, newVarB, partAtC, idxA, List.zipIdx_cons, List.zipIdx_nil, List.set_cons_zero, List.set_cons_succ, List.all_cons, List.all_nil, C.deep, Bool.and_true, Bool.and_self, List.nil_append, List.cons_append, Nat.reduceMul, Nat.reduceSub, Nat.reduceLT, decide_eq_true_eq, Option.getD_some, Option.getD_none, List.mapM_nil, List.mapM_cons, Option.bind_eq_bind, Option.pure_def, ob_some, ob_none, om_some, om_none, kpL_nil, kpL_cons, khL_nil, khL_cons, mkE_kp, mkE_kh, mkE_vb, evCall, callee_func, viewA, viewC, viewP, appC, appH, ghostB, List.isEmpty_cons, List.isEmpty_nil, Bool.and_false, Bool.false_and, List.forall_mem_cons, List.mem_cons, forall_eq_or_imp, List.length_append, Prod.mk.injEq, Bool.not_eq_true, Bool.false_eq_true, List.mem_singleton, List.not_mem_nil, or_false, forall_eq, false_implies, implies_true, forall_const, isTup, belV, belA, belC, belP, belH, forgetB, reduceCtorEq, List.append_eq, obind_some, obind_none]
      simp [modF, h]
  · cases hr
theorem mod_lt {n k : Int} (h1 : 1 ≤ k) (h2 : k ≤ 4611686018427387904) : 0 ≤ modF n k ∧ modF n k < k := by
  unfold modF
  rw [if_neg (by omega)]
  have e1 := Int.tmod_lt_of_pos n (show 0 < k by omega)
  have e2 : -k < n.tmod k := Int.lt_tmod_of_pos n (by omega)
  rw [wrap_i64 (by omega) (by omega)]
  exact ⟨Int.tmod_nonneg _ (by omega), Int.tmod_lt_of_pos _ (by omega)⟩

def FLight : List C → Option C
  | [.sl _ rows] => some (.v (.bool (decide ((rows.length : Int) ≤ 400))))
  | _ => none
theorem tl40 : tlenOK Tryd.prog 40 = true := by kernel_rfl
theorem spec_light : SpecP Tryd.prog GC 28 FLight := by
  refine specP_of (X := cx N0 6 [0, 2]) (cx_ok N0_ok _ _) rfl Tryd.func28 rfl rfl rfl (by kernel_rfl) ?_
  intro args r hr
  unfold FLight at hr
  split at hr
  · rename_i nl rows
    simp at hr
    subst hr
    refine ⟨by simp [cx], rfl, fun hv => ?_⟩
    simp only [tl40, Tryd.results28, N0, awc_skip, awc_region, awc_regionD, awc_seq, awc_cond, awc_block, awc_loop, awc_exit, awc_ret, thenQ_normal, thenQ_ret, thenQ_exit, blockQ_normal, blockQ_ret, blockQ_exit, brC_bool, Br_true, Br_false, resQ_some, keepT_nil, keepT_cons, look_nil, look_cons, evOps_nil, evOps_cons, evOpsD_nil, evOpsD_cons, putT_some, putT_none, opC_tmp, opC_func, opC_int, opC_bool, opC_string, opC_slice, opC_agg, pickC, loadC, guardC, fieldV, idxV, indexV, sliceV, extractC, lenV, unC, cvC, storeC, evG_none, evG_some, evE_move, evE_assign, evE_pick, evE_nil, evE_box, evE_alloc, evE_load, evE_store, evE_fieldAddr, evE_field, evE_indexAddr, evE_index, evE_build, evE_buildSlice, evE_slice, evE_extract, evE_bin, evE_un, evE_convert, evE_len, evE_append, evE_callf, evE_callt, binC_v, bin_add, bin_sub, bin_mul, bin_lss, bin_leq, bin_gtr, bin_geq, bin_eql, bin_neq, bin_rem, bin_quo, un_not, argsT, List.map_cons, List.map_nil, reduceIte, Nat.reduceEqDiff, Nat.reduceAdd, cx_P, cx_G, cx_E, cx_keep, cx_hd, retQ_ret, resAll, resOne, packC, finV, finA, fin1, fin0, lenC, goInt, normC, Cod.len, Cod.get, List.getElem?_toArray, List.getElem?_cons_zero, List.getElem?_cons_succ, List.toList_toArray, evGD, Bool.or_true, Bool.true_or, ne_eq, not_true_eq_false, not_false_eq_true, decide_true, decide_false, decide_not, Bool.not_true, Bool.not_false, Int.natCast_inj, Int.ofNat_lt, Int.ofNat_le, and_true, true_and, and_self, Int.natCast_nonneg, Int.toNat_natCast, if_true, if_false, binC_agg, binC_sl, cellsV, codPair_enc, codInt_enc, codStr_enc, List.length_cons, List.length_nil, List.take_succ_cons, List.take_zero, List.take_nil, List.drop_zero, List.drop_succ_cons, Nat.le_refl, Nat.reduceLeDiff, List.head?_cons, Nat.zero_add, opC_global, idxC, evLoad, partC, liveB, storeH, overC, ptrCells, fieldC, fillC, buildC, bsC, chunkC, repC, boxC, nilC, newVarB, partAtC, idxA, List.zipIdx_cons, List.zipIdx_nil, List.set_cons_zero, List.set_cons_succ, List.all_cons, List.all_nil, C.deep, Bool.and_true, Bool.and_self, List.nil_append, List.cons_append, Nat.reduceMul, Nat.reduceSub, Nat.reduceLT, decide_eq_true_eq, Option.getD_some, Option.getD_none, List.mapM_nil, List.mapM_cons, Option.bind_eq_bind, Option.pure_def, ob_some, ob_none, om_some, om_none, kpL_nil, kpL_cons, khL_nil, khL_cons, mkE_kp, mkE_kh, mkE_vb, evCall, callee_func, viewA, viewC, viewP, appC, appH, ghostB, List.isEmpty_cons, List.isEmpty_nil, Bool.and_false, Bool.false_and, List.forall_mem_cons, List.mem_cons, forall_eq_or_imp, List.length_append, Prod.mk.injEq, Bool.not_eq_true, Bool.false_eq_true, List.mem_singleton, List.not_mem_nil, or_false, forall_eq, false_implies, implies_true, forall_const, isTup, belV, belA, belC, belP, belH, forgetB, reduceCtorEq, List.append_eq, obind_some, obind_none]
  · cases hr

def diceB (nl : Bool) (l : List Int) (a : Nat) : Blk := { ty := 72, k := 2, rows := [[.sl nl (codInt.encL l), .v (.int .i64 (a : Int))]], row := false, nl := false, gen := 0 }
/-- what is left to be thrown -/
def diceOf (bl : Blk) : Option (Bool × List Int × Nat) :=
  match bl.rows with
  | [[.sl nl rows, .v (.int .i64 a)]] => (codInt.decL rows).bind fun l => if bl.ty = 72 ∧ bl.k = 2 ∧ bl.row = false ∧ bl.nl = false ∧ bl.gen = 0 ∧ 0 ≤ a ∧ a ≤ l.length then some (nl, l, a.toNat) else none
  | _ => none
theorem diceOf_B {nl : Bool} {l : List Int} {a : Nat} (h : a ≤ l.length) : diceOf (diceB nl l a) = some (nl, l, a) := by
  simp [diceOf, diceB, codInt.deL, h]
theorem diceOf_inv {bl : Blk} {d : Bool × List Int × Nat} (h : diceOf bl = some d) : bl = diceB d.1 d.2.1 d.2.2 ∧ d.2.2 ≤ d.2.1.length := by
  unfold diceOf at h
  split at h
  · rename_i nl rows a hr
    rw [Option.bind_eq_some_iff] at h
    obtain ⟨l, hl, h⟩ := h
    split at h
    · rename_i hc
      obtain ⟨h1, h2, h3, h4, h5, h6, h7⟩ := hc
      cases h
      have := codInt.edL _ _ hl
      subst this
      obtain ⟨ty, k, rs, row, nl', gen⟩ := bl
      simp only at h1 h2 h3 h4 h5 hr
      subst h1 h2 h3 h4 h5 hr
      refine ⟨?_, by simp only; omega⟩
      simp only [diceB]
      rw [Int.toNat_of_nonneg h6]
    · cases h
  · cases h
theorem dice_len {M : Mem} (hM : Rep M) {n : Nat} {nl : Bool} {l : List Int} {a : Nat} (h : M.H[n]? = some (diceB nl l a)) : l.length ≤ maxLen := by
  obtain ⟨cur, cap, hk⟩ := hM.blk n _ h rfl
  have h1 := hk.cells 0 0 _ (.sl nl (codInt.encL l)) rfl rfl
  rw [if_neg (by simp [diceB])] at h1
  have := len_le (Rc.rv h1)
  rwa [codInt.len] at this
def FRoll : List C → List Blk → Option (C × List Blk)
  | [.sl nl rows], H => (codInt.decL rows).bind fun l => if okH (H.length + 1) H = true then some (.ptr H.length 0 0 0, H ++ [diceB nl l 0]) else none
  | _, _ => none
theorem tp72 : tplaces Tryd.prog 72 = some [(0, 1), (1, 1)] := by kernel_rfl
theorem tz72 : tzero Tryd.prog 72 = some [.slice none 0 0, .int .i64 0] := by kernel_rfl
theorem ts72 : tsize Tryd.prog 72 = some 2 := by kernel_rfl
theorem ta72 : tagg Tryd.prog 72 = some true := by kernel_rfl
theorem tf72_0 : tfield Tryd.prog 72 0 = some (0, 40, 1) := by kernel_rfl
theorem tf72_1 : tfield Tryd.prog 72 1 = some (1, 3, 1) := by kernel_rfl
theorem taI : tagg Tryd.prog 3 = some false := by kernel_rfl
theorem tsI : tsize Tryd.prog 3 = some 1 := by kernel_rfl
theorem taL : tagg Tryd.prog 40 = some false := by kernel_rfl
theorem teL : telem Tryd.prog 40 = some (3, 1) := by kernel_rfl
noncomputable def NR : Env := { mkE [] [] with vb := fun n => n == 5 }
theorem NR_ok : NR.OK Tryd.prog GC := ⟨N0_ok.p, N0_ok.h⟩
theorem NR_kp : NR.kp = kpL [] := (rfl)
theorem NR_kh : NR.kh = khL [] := (rfl)
theorem NR_vb {n : Nat} : NR.vb n = (n == 5) := (rfl)
theorem spec_roll : SpecH Tryd.prog GC 29 FRoll := by
  refine specH_of (X := cxm NR 6 [0, 2]) Tryd.func29 rfl rfl (cxm_ok NR_ok _ _) (fun m => ⟨rfl, rfl, rfl, rfl⟩) (fun m => by kernel_rfl) ?_
  intro args H r H' hr
  unfold FRoll at hr
  split at hr
  · rename_i nl rows
    simp only [Option.bind_eq_some_iff] at hr
    obtain ⟨l, hl, hr⟩ := hr
    have := codInt.edL _ _ hl
    subst this
    split at hr
    · rename_i hok
      simp at hr
      obtain ⟨rfl, rfl⟩ := hr
      refine ⟨by simp [Tryd.ntmps29], by simp, fun hv => ?_⟩
      have hb : belH (H.length + 1) (H ++ [diceB nl l 0]) = true := by
        refine belH_ok ?_
        unfold okH at hok ⊢
        rw [List.all_append, hok]
        simp [belBlk, diceB, belC, belP]
      simp only [tp72, tz72, ts72, ta72, NR_kp, NR_kh, NR_vb, Nat.reduceBEq, Tryd.results29, cxm_P, cxm_G, cxm_E, cxm_keep, cxm_hd, cxm_m, awc_skip, awc_region, awc_regionD, awc_seq, awc_cond, awc_block, awc_loop, awc_exit, awc_ret, thenQ_normal, thenQ_ret, thenQ_exit, blockQ_normal, blockQ_ret, blockQ_exit, brC_bool, Br_true, Br_false, resQ_some, keepT_nil, keepT_cons, look_nil, look_cons, evOps_nil, evOps_cons, evOpsD_nil, evOpsD_cons, putT_some, putT_none, opC_tmp, opC_func, opC_int, opC_bool, opC_string, opC_slice, opC_agg, pickC, loadC, guardC, fieldV, idxV, indexV, sliceV, extractC, lenV, unC, cvC, storeC, evG_none, evG_some, evE_move, evE_assign, evE_pick, evE_nil, evE_box, evE_alloc, evE_load, evE_store, evE_fieldAddr, evE_field, evE_indexAddr, evE_index, evE_build, evE_buildSlice, evE_slice, evE_extract, evE_bin, evE_un, evE_convert, evE_len, evE_append, evE_callf, evE_callt, binC_v, bin_add, bin_sub, bin_mul, bin_lss, bin_leq, bin_gtr, bin_geq, bin_eql, bin_neq, bin_rem, bin_quo, un_not, argsT, List.map_cons, List.map_nil, reduceIte, Nat.reduceEqDiff, Nat.reduceAdd, cx_P, cx_G, cx_E, cx_keep, cx_hd, retQ_ret, resAll, resOne, packC, finV, finA, fin1, fin0, lenC, goInt, normC, Cod.len, Cod.get, List.getElem?_toArray, List.getElem?_cons_zero, List.getElem?_cons_succ, List.toList_toArray, evGD, Bool.or_true, Bool.true_or, ne_eq, not_true_eq_false, not_false_eq_true, decide_true, decide_false, decide_not, Bool.not_true, Bool.not_false, Int.natCast_inj, Int.ofNat_lt, Int.ofNat_le, and_true, true_and, and_self, Int.natCast_nonneg, Int.toNat_natCast, if_true, if_false, binC_agg, binC_sl, cellsV, codPair_enc, codInt_enc, codStr_enc, List.length_cons, List.length_nil, List.take_succ_cons, List.take_zero, List.take_nil, List.drop_zero, List.drop_succ_cons, Nat.le_refl, Nat.reduceLeDiff, List.head?_cons, Nat.zero_add, opC_global, idxC, evLoad, partC, liveB, storeH, overC, ptrCells, fieldC, fillC, buildC, bsC, chunkC, repC, boxC, nilC, newVarB, partAtC, idxA, List.zipIdx_cons, List.zipIdx_nil, List.set_cons_zero, List.set_cons_succ, List.all_cons, List.all_nil, C.deep, Bool.and_true, Bool.and_self, List.nil_append, List.cons_append, Nat.reduceMul, Nat.reduceSub, Nat.reduceLT, decide_eq_true_eq, Option.getD_some, Option.getD_none, List.mapM_nil, List.mapM_cons, Option.bind_eq_bind, Option.pure_def, ob_some, ob_none, om_some, om_none, kpL_nil, kpL_cons, khL_nil, khL_cons, mkE_kp, mkE_kh, mkE_vb, evCall, callee_func, viewA, viewC, viewP, appC, appH, ghostB, List.isEmpty_cons, List.isEmpty_nil, Bool.and_false, Bool.false_and, List.forall_mem_cons, List.mem_cons, forall_eq_or_imp, List.length_append, Prod.mk.injEq, Bool.not_eq_true, Bool.false_eq_true, List.mem_singleton, List.not_mem_nil, or_false, forall_eq, false_implies, implies_true, forall_const, isTup, belV, belA, belC, belP, belH, forgetB, reduceCtorEq, List.append_eq, obind_some, obind_none]
      refine ⟨.inl rfl, ?_, (List.take_of_length_le (Nat.le_refl _) : List.take (H ++ [diceB nl l 0]).length (H ++ [diceB nl l 0]) = _), by simp [belV, belA, belC, belP], ?_⟩
      · simp only [resAll, resOne, look_nil, look_cons, packC, awc_skip, awc_region, awc_regionD, awc_seq, awc_cond, awc_block, awc_loop, awc_exit, awc_ret, thenQ_normal, thenQ_ret, thenQ_exit, blockQ_normal, blockQ_ret, blockQ_exit, brC_bool, Br_true, Br_false, resQ_some, keepT_nil, keepT_cons, look_nil, look_cons, evOps_nil, evOps_cons, evOpsD_nil, evOpsD_cons, putT_some, putT_none, opC_tmp, opC_func, opC_int, opC_bool, opC_string, opC_slice, opC_agg, pickC, loadC, guardC, fieldV, idxV, indexV, sliceV, extractC, lenV, unC, cvC, storeC, evG_none, evG_some, evE_move, evE_assign, evE_pick, evE_nil, evE_box, evE_alloc, evE_load, evE_store, evE_fieldAddr, evE_field, evE_indexAddr, evE_index, evE_build, evE_buildSlice, evE_slice, evE_extract, evE_bin, evE_un, evE_convert, evE_len, evE_append, evE_callf, evE_callt, binC_v, bin_add, bin_sub, bin_mul, bin_lss, bin_leq, bin_gtr, bin_geq, bin_eql, bin_neq, bin_rem, bin_quo, un_not, argsT, List.map_cons, List.map_nil, reduceIte, Nat.reduceEqDiff, Nat.reduceAdd, cx_P, cx_G, cx_E, cx_keep, cx_hd, retQ_ret, resAll, resOne, packC, finV, finA, fin1, fin0, lenC, goInt, normC, Cod.len, Cod.get, List.getElem?_toArray, List.getElem?_cons_zero, List.getElem?_cons_succ, List.toList_toArray, evGD, Bool.or_true, Bool.true_or, ne_eq, not_true_eq_false, not_false_eq_true, decide_true, decide_false, decide_not, Bool.not_true, Bool.not_false, Int.natCast_inj, Int.ofNat_lt, Int.ofNat_le, and_true, true_and, and_self, Int.natCast_nonneg, Int.toNat_natCast, if_true, if_false, binC_agg, binC_sl, cellsV, codPair_enc, codInt_enc, codStr_enc, List.length_cons, List.length_nil, List.take_succ_cons, List.take_zero, List.take_nil, List.drop_zero, List.drop_succ_cons, Nat.le_refl, Nat.reduceLeDiff, List.head?_cons, Nat.zero_add, opC_global, idxC, evLoad, partC, liveB, storeH, overC, ptrCells, fieldC, fillC, buildC, bsC, chunkC, repC, boxC, nilC, newVarB, partAtC, idxA, List.zipIdx_cons, List.zipIdx_nil, List.set_cons_zero, List.set_cons_succ, List.all_cons, List.all_nil, C.deep, Bool.and_true, Bool.and_self, List.nil_append, List.cons_append, Nat.reduceMul, Nat.reduceSub, Nat.reduceLT, decide_eq_true_eq, Option.getD_some, Option.getD_none, List.mapM_nil, List.mapM_cons, Option.bind_eq_bind, Option.pure_def, ob_some, ob_none, om_some, om_none, kpL_nil, kpL_cons, khL_nil, khL_cons, mkE_kp, mkE_kh, mkE_vb, evCall, callee_func, viewA, viewC, viewP, appC, appH, ghostB, List.isEmpty_cons, List.isEmpty_nil, Bool.and_false, Bool.false_and, List.forall_mem_cons, List.mem_cons, forall_eq_or_imp, List.length_append, Prod.mk.injEq, Bool.not_eq_true, Bool.false_eq_true, List.mem_singleton, List.not_mem_nil, or_false, forall_eq, false_implies, implies_true, forall_const, isTup, belV, belA, belC, belP, belH, forgetB, reduceCtorEq, List.append_eq, obind_some, obind_none]
      · rw [List.length_append]
        exact hb
    · cases hr
  · cases hr
end Go.Proofs.YtiognfhjmcbbpaaDoor.Ev

import Derived.Test.YtiognfhjmcbbpaaDoorEv3
import Derived.Test.YtiognfhjmcbbpaaDoorCAwk
import Derived.Test.YtiognfhjmcbbpaaDoorCLay
namespace Go.Proofs.YtiognfhjmcbbpaaDoor.Ev
open Go.RowKit
set_option linter.unusedSimpArgs false
set_option linter.unusedVariables false

/-! ## The catalog's tables, told of readings -/

def suCs (n : Nat) : List C := [.v (.string (suRow n).nm), .v (.int .i64 (suRow n).a), .v (.int .i64 (suRow n).b), .v (.int .i64 (suRow n).c), .v (.int .i64 (suRow n).d), .v (.int .i64 (suRow n).e), .v (.int .i64 (suRow n).f), .v (.int .i64 (suRow n).g), .v (.int .i64 (suRow n).h), .v (.int .i64 (suRow n).l), .v (.int .i64 (suRow n).m)]
def suiCells : List C := (List.range 17).flatMap suCs
theorem sui_take : ∀ (n : Nat), n < 17 → (suiCells.drop (n * 11)).take 11 = suCs n
  | 0, _ => rfl
  | 1, _ => rfl
  | 2, _ => rfl
  | 3, _ => rfl
  | 4, _ => rfl
  | 5, _ => rfl
  | 6, _ => rfl
  | 7, _ => rfl
  | 8, _ => rfl
  | 9, _ => rfl
  | 10, _ => rfl
  | 11, _ => rfl
  | 12, _ => rfl
  | 13, _ => rfl
  | 14, _ => rfl
  | 15, _ => rfl
  | 16, _ => rfl
  | n + 17, h => absurd h (by omega)
theorem sui_size : suiCells.length = 187 := by kernel_rfl
theorem sui_len (n : Nat) (h : n < 17) : 11 ≤ (suiCells.drop (n * 11)).length := by
  rw [List.length_drop, sui_size]
  omega
def alCs (n : Nat) : List C := [.v (.string (algRow n).1), .v (.int .i64 (algRow n).2.1), .v (.int .i64 (algRow n).2.2)]
def algCells : List C := (List.range 23).flatMap alCs
theorem alg_take : ∀ (n : Nat), n < 23 → (algCells.drop (n * 3)).take 3 = alCs n
  | 0, _ => rfl
  | 1, _ => rfl
  | 2, _ => rfl
  | 3, _ => rfl
  | 4, _ => rfl
  | 5, _ => rfl
  | 6, _ => rfl
  | 7, _ => rfl
  | 8, _ => rfl
  | 9, _ => rfl
  | 10, _ => rfl
  | 11, _ => rfl
  | 12, _ => rfl
  | 13, _ => rfl
  | 14, _ => rfl
  | 15, _ => rfl
  | 16, _ => rfl
  | 17, _ => rfl
  | 18, _ => rfl
  | 19, _ => rfl
  | 20, _ => rfl
  | 21, _ => rfl
  | 22, _ => rfl
  | n + 23, h => absurd h (by omega)
/-- What is known of memory besides. -/
structure Inv (w : World) : Prop where
  env : Go.Proofs.YtiognfhjmcbbpaaDoor.Env w
  su : SuAt w
  mx : MaxAt w
  er : ErrAt w
theorem inv_mono (w w' : World) (B : Nat) (h6 : 6 ≤ B) (hb : Below B w w') (h : Inv w) : Inv w' := by
  have c0 : 0 < B := Nat.lt_of_lt_of_le (by decide) h6
  have c1 : 1 < B := Nat.lt_of_lt_of_le (by decide) h6
  have c2 : 2 < B := Nat.lt_of_lt_of_le (by decide) h6
  have c3 : 5 < B := Nat.lt_of_lt_of_le (by decide) h6
  have c4 : 3 < B := Nat.lt_of_lt_of_le (by decide) h6
  refine ⟨⟨fun i hi => ?_, ?_⟩, fun i hi j v hv => ?_, ?_, ?_⟩
  · obtain ⟨h1, h2, h3⟩ := h.env.alg i hi
    exact ⟨(hb.cell (p := ⟨_, i * 3, none⟩) c0).trans h1, (hb.cell (p := ⟨_, i * 3 + 1, none⟩) c0).trans h2, (hb.cell (p := ⟨_, i * 3 + 2, none⟩) c0).trans h3⟩
  · have h1 := h.env.pow
    unfold Lib.TabIs at h1 ⊢
    unfold World.var? at h1 ⊢
    rw [gpow] at h1 ⊢
    simp only [Option.bind_some] at h1 ⊢
    rw [hb.block _ c3]
    exact h1
  · exact (hb.cell (p := ⟨_, i * 11 + j, none⟩) c1).trans (h.su i hi j v hv)
  · obtain ⟨m, hm⟩ := h.mx
    exact ⟨m, (hb.cell (p := ⟨_, 0, none⟩) c2).trans hm⟩
  · obtain ⟨ev, h1, h2⟩ := h.er
    exact ⟨ev, (hb.cell (p := ⟨_, 0, none⟩) c4).trans h1, h2⟩
noncomputable def GC : GT where
  tab := fun g => if g = 0 then some algCells else if g = 1 then some suiCells else none
  inv := Inv
  bd := 6
  mono := inv_mono
theorem GC_sui : GC.tab 1 = some suiCells := (rfl)
theorem GC_alg : GC.tab 0 = some algCells := (rfl)
noncomputable def cx (E : Env) (nt : Nat) (keep : List Nat) : Ctx := { P := Tryd.prog, G := GC, E, nt, m := 0, hd := fun _ _ => true, keep }
section
variable {E : Env} {nt : Nat} {keep : List Nat}
theorem cx_ok (h : E.OK Tryd.prog GC) (nt : Nat) (keep : List Nat) : (cx E nt keep).OK := ⟨h, by kernel_rfl⟩
theorem cx_P : (cx E nt keep).P = Tryd.prog := rfl
theorem cx_G : (cx E nt keep).G = GC := rfl
theorem cx_E : (cx E nt keep).E = E := rfl
theorem cx_keep : (cx E nt keep).keep = keep := rfl
theorem cx_hd {i j : Nat} : (cx E nt keep).hd i j = true := rfl
end
noncomputable def K0 : Env := { kp := fun _ _ => none, kh := fun _ => none, vb := fun _ => false }
theorem K0_ok : K0.OK Tryd.prog GC := ⟨fun f args r h => by simp [K0] at h, fun f F h => by simp [K0] at h⟩

theorem arr70 : tarr Tryd.prog 70 = some (17, 69, 11) := by kernel_rfl

/-! ## row, Suite, Suites -/

theorem tz29 : tzero Tryd.prog 29 = some [.int .i64 0, .string ⟨#[]⟩, .int .i64 0, .int .i64 0, .int .i64 0, .int .i64 0, .int .i64 0, .int .i64 0, .int .i64 0, .int .i64 0, .int .i64 0, .int .i64 0] := by kernel_rfl
theorem tz69 : tzero Tryd.prog 69 = some [.string ⟨#[]⟩, .int .i64 0, .int .i64 0, .int .i64 0, .int .i64 0, .int .i64 0, .int .i64 0, .int .i64 0, .int .i64 0, .int .i64 0, .int .i64 0] := by kernel_rfl
theorem ta69 : tagg Tryd.prog 69 = some true := by kernel_rfl
theorem ta29 : tagg Tryd.prog 29 = some true := by kernel_rfl
theorem ta23 : tagg Tryd.prog 23 = some true := by kernel_rfl
theorem ta3 : tagg Tryd.prog 3 = some false := by kernel_rfl
theorem ta9 : tagg Tryd.prog 9 = some false := by kernel_rfl
theorem ts69 : tsize Tryd.prog 69 = some 11 := by kernel_rfl
theorem ts29 : tsize Tryd.prog 29 = some 12 := by kernel_rfl
theorem ts23 : tsize Tryd.prog 23 = some 2 := by kernel_rfl
theorem tf69_0 : tfield Tryd.prog 69 0 = some (0, 9, 1) := by kernel_rfl
theorem tf69_1 : tfield Tryd.prog 69 1 = some (1, 23, 2) := by kernel_rfl
theorem tf69_2 : tfield Tryd.prog 69 2 = some (3, 23, 2) := by kernel_rfl
theorem tf69_3 : tfield Tryd.prog 69 3 = some (5, 23, 2) := by kernel_rfl
theorem tf69_4 : tfield Tryd.prog 69 4 = some (7, 23, 2) := by kernel_rfl
theorem tf69_5 : tfield Tryd.prog 69 5 = some (9, 3, 1) := by kernel_rfl
theorem tf69_6 : tfield Tryd.prog 69 6 = some (10, 3, 1) := by kernel_rfl
theorem tp29 : tplaces Tryd.prog 29 = some [(0, 1), (1, 1), (2, 2), (4, 2), (6, 2), (8, 2), (10, 1), (11, 1)] := by kernel_rfl
def rowCs (n : Nat) : List C := .v (.int .i64 n) :: suCs n
def FRow : List C → Option C
  | [.v (.int .i64 c)] => if 0 ≤ c ∧ c < 17 then some (.agg (rowCs c.toNat)) else none
  | _ => none
set_option maxRecDepth 10000 in
theorem spec_row : SpecP Tryd.prog GC 36 FRow := by
  refine specP_of (X := cx K0 23 [0, 2, 3]) (cx_ok K0_ok _ _) rfl Tryd.func36 rfl rfl rfl (by kernel_rfl) ?_
  intro args r hr
  unfold FRow at hr
  split at hr
  · rename_i c
    split at hr
    · rename_i hc
      simp at hr
      subst hr
      obtain ⟨n, rfl⟩ := Int.eq_ofNat_of_zero_le hc.1
      have hn : n < 17 := by omega
      have h1 := sui_take n hn
      have h2 := sui_len n hn
      have hn' : (n : Int) < ((17 : Nat) : Int) := by omega
      refine ⟨by simp [cx], rfl, fun _ => ?_⟩
      unfold suCs at h1
      unfold rowCs suCs
      rw [Int.toNat_natCast]
      generalize suRow n = r at h1 ⊢
      simp only [tz29, tz69, arr70, GC_sui, hn, h1, h2, ta69, ts69, ta23, ts23, ta3, ta9, ta29, ts29, tp29, tf69_0, tf69_1, tf69_2, tf69_3, tf69_4, tf69_5, tf69_6, Tryd.results36, awc_skip, awc_region, awc_regionD, awc_seq, awc_cond, awc_block, awc_loop, awc_exit, awc_ret, thenQ_normal, thenQ_ret, thenQ_exit, blockQ_normal, blockQ_ret, blockQ_exit, brC_bool, Br_true, Br_false, resQ_some, keepT_nil, keepT_cons, look_nil, look_cons, evOps_nil, evOps_cons, evOpsD_nil, evOpsD_cons, putT_some, putT_none, opC_tmp, opC_func, opC_int, opC_bool, opC_string, opC_slice, opC_agg, pickC, loadC, guardC, fieldV, idxV, indexV, sliceV, extractC, lenV, unC, cvC, storeC, evG_none, evG_some, evE_move, evE_assign, evE_pick, evE_nil, evE_box, evE_alloc, evE_load, evE_store, evE_fieldAddr, evE_field, evE_indexAddr, evE_index, evE_build, evE_buildSlice, evE_slice, evE_extract, evE_bin, evE_un, evE_convert, evE_len, evE_append, evE_callf, evE_callt, binC_v, bin_add, bin_sub, bin_mul, bin_lss, bin_leq, bin_gtr, bin_geq, bin_eql, bin_neq, bin_rem, bin_quo, un_not, argsT, List.map_cons, List.map_nil, reduceIte, Nat.reduceEqDiff, Nat.reduceAdd, cx_P, cx_G, cx_E, cx_keep, cx_hd, retQ_ret, resAll, resOne, packC, finV, finA, fin1, fin0, lenC, goInt, normC, Cod.len, Cod.get, List.getElem?_toArray, List.getElem?_cons_zero, List.getElem?_cons_succ, List.toList_toArray, evGD, Bool.or_true, Bool.true_or, ne_eq, not_true_eq_false, not_false_eq_true, decide_true, decide_false, decide_not, Bool.not_true, Bool.not_false, Int.natCast_inj, Int.ofNat_lt, Int.ofNat_le, and_true, true_and, and_self, Int.natCast_nonneg, Int.toNat_natCast, if_true, if_false, binC_agg, binC_sl, cellsV, codPair_enc, codInt_enc, codStr_enc, List.length_cons, List.length_nil, List.take_succ_cons, List.take_zero, List.take_nil, List.drop_zero, List.drop_succ_cons, Nat.le_refl, Nat.reduceLeDiff, List.head?_cons, Nat.zero_add, opC_global, idxC, evLoad, partC, liveB, storeH, overC, ptrCells, fieldC, fillC, buildC, bsC, chunkC, repC, boxC, nilC, newVarB, partAtC, idxA, List.zipIdx_cons, List.zipIdx_nil, List.set_cons_zero, List.set_cons_succ, List.all_cons, List.all_nil, C.deep, Bool.and_true, Bool.and_self, List.nil_append, List.cons_append, Nat.reduceMul, Nat.reduceSub, Nat.reduceLT, decide_eq_true_eq, Option.getD_some, Option.getD_none, List.mapM_nil, List.mapM_cons, Option.bind_eq_bind, Option.pure_def, ob_some, ob_none, om_some, om_none, kpL_nil, kpL_cons, khL_nil, khL_cons, mkE_kp, mkE_kh, mkE_vb, evCall, callee_func, viewA, viewC, viewP, appC, appH, ghostB, List.isEmpty_cons, List.isEmpty_nil, Bool.and_false, Bool.false_and, List.forall_mem_cons, List.mem_cons, forall_eq_or_imp, List.length_append, Prod.mk.injEq, Bool.not_eq_true, Bool.false_eq_true, List.mem_singleton, List.not_mem_nil, or_false, forall_eq, false_implies, implies_true, forall_const, isTup, belV, belA, belC, belP, belH, forgetB, reduceCtorEq, List.append_eq, obind_some, obind_none]
    · cases hr
  · cases hr
end Go.Proofs.YtiognfhjmcbbpaaDoor.Ev

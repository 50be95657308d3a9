import Derived.Test.YtpbahffkhpfakaaWLoad
namespace Go.Proofs.Ytpbahffkhpfakaa
open Go.RowKit
set_option linter.unusedSimpArgs false
set_option linter.unusedVariables false

theorem loadN_snoc (c : Cal) (ps : List (Int × Int)) (p : Int × Int) (o : Nat) : loadN c (ps ++ [p]) o = if slotOf c p = (o : Int) then loadN c ps o + 1 else loadN c ps o := by
  unfold loadN
  rw [List.filter_append, List.length_append]
  by_cases h : slotOf c p = (o : Int)
  · simp [h]
  · simp [h]
theorem loadN_le (c : Cal) (ps : List (Int × Int)) (o : Nat) : 0 ≤ loadN c ps o ∧ loadN c ps o ≤ (ps.length : Int) := by
  unfold loadN
  have := List.length_filter_le (fun p => decide (slotOf c p = (o : Int))) ps
  omega

structure Ok0 (c : Cal) : Prop where
  wins : c.wins.length ≤ 32
  room : c.room.length ≤ 8
theorem ok0_of {c : Cal} {n : Int} (h : checkF c n = 0) : Ok0 c := by
  unfold checkF at h
  by_cases h1 : 32 < c.wins.length ∨ 8 < c.room.length
  · rw [if_pos h1] at h; cases h
  · exact ⟨by omega, by omega⟩

theorem clo_load (B : Nat) (ra : Option Addr) (rn rc : Nat) (l : List Int) (w : World) (hB : B < w.heap.size) (hc : w.cell? ⟨B, 2, none⟩ = some (.slice ra rn rc)) (hr : (rn : Int) ≤ 9223372036854775807) :
    PredOn 66 #[.pointer (some ⟨B, 0, none⟩)] (Value.int .i64) (fun n => inB n 0 ((rn : Int) - 1)) l w := fun W x hx hb => by
  have hc2 : W.cell? ⟨B, 2, none⟩ = some (.slice ra rn rc) := (hb.cell (p := ⟨B, 2, none⟩) hB).trans hc
  have hw := i64_len rn hr
  clear hc hb hx
  show Calls Try.prog 66 #[.int .i64 x, .pointer (some ⟨B, 0, none⟩)] W fun e w' => e = .returned (.bool (inB x 0 ((rn : Int) - 1))) ∧ Below W.heap.size W w'
  go_enter Try.func66, Try.ntmps66
  go_wp2_with (go_at_call 34; refine (in_any _ _ _ _).mono ?_; rintro e w' ⟨rfl, rfl⟩)
  go_ret
  exact ⟨by first | rfl | simp_all, Below.refl _ _⟩

set_option maxRecDepth 100000 in
set_option maxHeartbeats 8000000 in
theorem load_form (c : Cal) (v1 v2 v3 : Value) (ts ds ask : List Int) (w : World) (h : CalAt w c) (h1 : IntsAt w v1 ts) (h2 : IntsAt w v2 ds) (h0 : checkF c c.team.length = 0) (hbad : ts.length ≠ ds.length ∨ 24 < ts.length) :
    Calls Try.prog 53 #[c.val, v1, v2, v3] w fun e w' => LoadOut c ts ds ask w e w' := by
  have HE := Lib.hid (show loadE c ts ds ask = if ts.length ≠ ds.length then 1 else 3 by
    unfold loadE
    rw [if_neg (by rw [h0]; simp)]
    by_cases hn : ts.length ≠ ds.length
    · rw [if_pos hn, if_pos hn]
    · rw [if_neg hn, if_neg hn, if_pos (by omega)])
  have H0 := Lib.hid (ld0 w c h)
  have HC := Lib.hid (fun W (hW : CalAt W c) => check_any c c.team.length W hW)
  rw [h0] at HC
  have hl1 := h1.1
  have hl2 := h2.1
  obtain ⟨wa, wc, ta, tc, ra, rc, e1, e2, e3⟩ := h.forms
  obtain ⟨a1, m1, rfl⟩ := h1.form
  obtain ⟨a2, m2, rfl⟩ := h2.form
  clear h h1 h2 h0
  unfold LoadOut
  generalize loadE c ts ds ask = le at *
  generalize loadN c (ts.zip ds) = ln at *
  obtain ⟨ws, tm, rm, wv, tv, rv⟩ := c
  simp only at e1 e2 e3
  subst e1 e2 e3
  unfold Cal.val at *
  simp only at *
  generalize ts.length = n1 at *
  generalize ds.length = n2 at *
  go_enter Try.func53, Try.ntmps53
  go_wp2_with fail
  generalize (((w.alloc (.cells #[.slice wa ws.length wc, .slice ta tm.length tc, .slice ra rm.length rc] 25)).alloc (.cells Try.zeroCells76 76)).alloc (.cells Try.zeroCells76 76)) = W0 at *
  refine (HC.out _ H0.out.cal).mono ?_
  rintro e w1 ⟨rfl, hb⟩
  have h1 := H0.out.later hb
  have H1 := Lib.hid h1
  have hcnt := h1.cnt
  have hres := h1.res
  clear hb h1
  by_cases hn : n1 = n2
  · subst hn
    have hq : ((n1 : Int) == (n1 : Int)) = true := by simp
    have hg : (24 : Int) < (n1 : Int) := by omega
    have HE2 := Lib.hid (show le = 3 by rw [HE.out]; simp)
    clear hbad
    go_wp2_with (first
      | (refine wo_load hcnt rfl rfl ?_)
      | (refine wo_store (f := fun _ => 0) hres rfl rfl rfl ?_)
      | (refine wl_load hcnt rfl rfl rfl ?_)
      | (refine wl_store (f := fun _ => 0) hres rfl rfl rfl rfl ?_))
    refine bodyPost_ret (v := .tuple #[lval fun _ => 0, .int .i64 3]) ?_ rfl ?_
    · exact load_ret w1 _ _ _ H1.out.res _ rfl
    · exact ⟨fun _ => 0, by rw [HE2.out], fun h => absurd (HE2.out.symm.trans h) (by decide), Below.setCells' _ _ H1.out.below (by omega)⟩
  · have hq : ((n1 : Int) == (n2 : Int)) = false := by simp; omega
    have HE2 := Lib.hid (show le = 1 by rw [HE.out, if_pos hn])
    clear hbad
    go_wp2_with (first
      | (refine wo_load hcnt rfl rfl ?_)
      | (refine wo_store (f := fun _ => 0) hres rfl rfl rfl ?_)
      | (refine wl_load hcnt rfl rfl rfl ?_)
      | (refine wl_store (f := fun _ => 0) hres rfl rfl rfl rfl ?_))
    refine bodyPost_ret (v := .tuple #[lval fun _ => 0, .int .i64 1]) ?_ rfl ?_
    · exact load_ret w1 _ _ _ H1.out.res _ rfl
    · exact ⟨fun _ => 0, by rw [HE2.out], fun h => absurd (HE2.out.symm.trans h) (by decide), Below.setCells' _ _ H1.out.below (by omega)⟩
end Go.Proofs.Ytpbahffkhpfakaa

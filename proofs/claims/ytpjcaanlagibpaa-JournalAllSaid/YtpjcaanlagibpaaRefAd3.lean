import Derived.Test.YtpjcaanlagibpaaRefAd2
namespace Go.Proofs.Ytpjcaanlagibpaa
open Go.RowKit
set_option linter.unusedSimpArgs false
set_option linter.unusedVariables false

set_option maxRecDepth 100000 in
set_option maxHeartbeats 4000000 in
theorem refadd_day (v : Value) (ds : List Dec) (d : Dec) (w : World) (h : SliceDecs w v ds) (hl : ds.length < 128) (hok : OKs ds) (hd : d.ok = true) (hpos : 0 < ds.length) (q : Dec) (hlast : ds[ds.length - 1]'(by omega) = q) (hx : d.day < q.day) :
    Calls Try.prog 20 #[.agg #[v], d.val] w fun e w' => AddOut ds 6 w e w' := by
  obtain ⟨a0, c0, rfl⟩ := h.val
  have hli : (ds.length : Int) < 128 := by omega
  have hcp := refcopy_any (.slice a0 ds.length c0) ds
  have hck := fun W h => refcheck_val (.slice a0 ds.length c0) ds W h (by omega) hok
  have HST0 := Lib.hid (fun w4 vo => RAdd.start w (.slice a0 ds.length c0) d ds h w4 vo)
  have HCP := Lib.hid (fun W h => hcp W h (by omega))
  have HCK := Lib.hid hck
  have HVA := Lib.hid (fun W => refvalid_yes d W hd)
  have hs3 : SliceDecs (((w.alloc (.cells #[.slice a0 ds.length c0] 25)).alloc (.cells #[.int .i64 d.day, .int .i64 d.known, .int .i64 d.kind, .int .i64 d.subject, .int .i64 d.value] 27)).alloc (.cells #[.slice none 0 0] 25)) (.slice a0 ds.length c0) ds := h.below ((((Below.refl _ _).alloc (Nat.le_refl _) _).alloc (by simp) _).alloc (by simp; omega) _)
  have HS3 := Lib.hid hs3
  unfold Dec.val at *
  clear h hcp hck hs3 hok hd
  go_enter Try.func20, Try.ntmps20
  go_wp2_with fail
  refine (HCP.out _ HS3.out).mono ?_
  rintro e w4 ⟨vo, rfl, hO4, hb4⟩
  have hst := HST0.out w4 vo hb4 hO4
  obtain ⟨a4, c4, hvo⟩ := (OwnDecs.slice hO4).val
  subst hvo
  clear hO4 hb4 HST0 HCP HS3
  have hc := hst.cell
  have HST := Lib.hid hst
  clear hst
  go_wp2_with fail
  generalize w4.alloc (.cells #[.slice a4 ds.length c4] 25) = W5 at *
  generalize w4.heap.size = Bo at *
  refine (HCK.out _ HST.out.src).mono ?_
  rintro e w5 ⟨rfl, hb5⟩
  have hst := HST.out.mono hb5
  have hc5 := hst.cell
  obtain ⟨d0, d1, d2, d3, d4⟩ := hst.dec
  have HST5 := Lib.hid hst
  clear hst hb5 HST HCK hc
  clear w4
  go_wp2_with fail
  refine (HVA.out _).mono ?_
  rintro e w6 ⟨rfl, hb6⟩
  have hst := HST5.out.mono hb6
  clear hb6 HST5 HVA d0 d1 d2 d3 d4 hc5
  have hc6 := hst.cell
  obtain ⟨d0, d1, d2, d3, d4⟩ := hst.dec
  simp only [Nat.zero_add] at d0 d1 d2 d3 d4
  have HST6 := Lib.hid hst
  rcases hst.src with ⟨_, h2⟩ | ⟨g, cap5, hv, hg, hcap, hdd⟩
  · rw [h2] at hpos; simp at hpos
  injection hv with hv1 _ hv3
  subst hv1 hv3
  obtain ⟨p0, p1, p2, p3, p4⟩ := hdd (ds.length - 1) (by omega)
  simp only [Nat.zero_add] at p0 p1
  have hp : (0 : Int) < (ds.length : Int) := by omega
  have hpn : 0 < ds.length := hpos
  have hi0 : (0 : Int) ≤ (ds.length : Int) - 1 := by omega
  have hi1 : (ds.length : Int) - 1 < (ds.length : Int) := by omega
  have hw1 : IntKind.i64.wrap ((ds.length : Int) - 1) = (ds.length : Int) - 1 := IntWalk.i64_in _ (by omega)
  have hw2 : ((ds.length : Int) - 1).toNat = ds.length - 1 := by omega
  rw [hlast] at p0 p1
  clear p2 p3 p4 hdd hst hlast hpos
  have hdd1 : decide (d.day < q.day) = true := decide_eq_true (by omega)
  go_wp2_with fail
  refine wp_region_quiet_lit (by kernel_rfl) (by kernel_rfl) ?_
  repeat (any_goals (first | go_big_quiet_step (fail) | quiet_step (fail)))
  refine wpQuiet_nil ?_; intro _ hw'; obtain ⟨nq, hw''⟩ := hw'; subst hw''
  clear hw1 hw2 hi0 hi1 hp hpn p0 p1 d0 d1 d2 d3 d4 hc6
  have hst := HST6.out.mono (W' := w6.drewN nq) ⟨rfl, rfl, rfl, Nat.le_refl _, fun _ _ => rfl⟩
  generalize w6.drewN nq = w7 at *
  have hc6 := hst.copy
  obtain ⟨u0, ho6⟩ := hst.out
  have og6 := hst.ofree
  obtain ⟨hq, hO, hB⟩ := hst.done
  have HO := Lib.hid hO
  have HB := Lib.hid hB
  have HQ := Lib.hid hq
  clear hst hO hB hq
  go_wp2_with fail
  have hq := HQ.out
  exact bodyPost_ret (v := .tuple #[.agg #[.slice a4 ds.length c4], .int .i64 6]) (by simp [results, Try.results20, go_sem, hq]) rfl ⟨_, rfl, HO.out, HB.out⟩

set_option maxRecDepth 100000 in
set_option maxHeartbeats 4000000 in
theorem refadd_known (v : Value) (ds : List Dec) (d : Dec) (w : World) (h : SliceDecs w v ds) (hl : ds.length < 128) (hok : OKs ds) (hd : d.ok = true) (hpos : 0 < ds.length) (q : Dec) (hlast : ds[ds.length - 1]'(by omega) = q) (hx : ¬ d.day < q.day) (hy : d.known < q.known) :
    Calls Try.prog 20 #[.agg #[v], d.val] w fun e w' => AddOut ds 6 w e w' := by
  obtain ⟨a0, c0, rfl⟩ := h.val
  have hli : (ds.length : Int) < 128 := by omega
  have hcp := refcopy_any (.slice a0 ds.length c0) ds
  have hck := fun W h => refcheck_val (.slice a0 ds.length c0) ds W h (by omega) hok
  have HST0 := Lib.hid (fun w4 vo => RAdd.start w (.slice a0 ds.length c0) d ds h w4 vo)
  have HCP := Lib.hid (fun W h => hcp W h (by omega))
  have HCK := Lib.hid hck
  have HVA := Lib.hid (fun W => refvalid_yes d W hd)
  have hs3 : SliceDecs (((w.alloc (.cells #[.slice a0 ds.length c0] 25)).alloc (.cells #[.int .i64 d.day, .int .i64 d.known, .int .i64 d.kind, .int .i64 d.subject, .int .i64 d.value] 27)).alloc (.cells #[.slice none 0 0] 25)) (.slice a0 ds.length c0) ds := h.below ((((Below.refl _ _).alloc (Nat.le_refl _) _).alloc (by simp) _).alloc (by simp; omega) _)
  have HS3 := Lib.hid hs3
  unfold Dec.val at *
  clear h hcp hck hs3 hok hd
  go_enter Try.func20, Try.ntmps20
  go_wp2_with fail
  refine (HCP.out _ HS3.out).mono ?_
  rintro e w4 ⟨vo, rfl, hO4, hb4⟩
  have hst := HST0.out w4 vo hb4 hO4
  obtain ⟨a4, c4, hvo⟩ := (OwnDecs.slice hO4).val
  subst hvo
  clear hO4 hb4 HST0 HCP HS3
  have hc := hst.cell
  have HST := Lib.hid hst
  clear hst
  go_wp2_with fail
  generalize w4.alloc (.cells #[.slice a4 ds.length c4] 25) = W5 at *
  generalize w4.heap.size = Bo at *
  refine (HCK.out _ HST.out.src).mono ?_
  rintro e w5 ⟨rfl, hb5⟩
  have hst := HST.out.mono hb5
  have hc5 := hst.cell
  obtain ⟨d0, d1, d2, d3, d4⟩ := hst.dec
  have HST5 := Lib.hid hst
  clear hst hb5 HST HCK hc
  clear w4
  go_wp2_with fail
  refine (HVA.out _).mono ?_
  rintro e w6 ⟨rfl, hb6⟩
  have hst := HST5.out.mono hb6
  clear hb6 HST5 HVA d0 d1 d2 d3 d4 hc5
  have hc6 := hst.cell
  obtain ⟨d0, d1, d2, d3, d4⟩ := hst.dec
  simp only [Nat.zero_add] at d0 d1 d2 d3 d4
  have HST6 := Lib.hid hst
  rcases hst.src with ⟨_, h2⟩ | ⟨g, cap5, hv, hg, hcap, hdd⟩
  · rw [h2] at hpos; simp at hpos
  injection hv with hv1 _ hv3
  subst hv1 hv3
  obtain ⟨p0, p1, p2, p3, p4⟩ := hdd (ds.length - 1) (by omega)
  simp only [Nat.zero_add] at p0 p1
  have hp : (0 : Int) < (ds.length : Int) := by omega
  have hpn : 0 < ds.length := hpos
  have hi0 : (0 : Int) ≤ (ds.length : Int) - 1 := by omega
  have hi1 : (ds.length : Int) - 1 < (ds.length : Int) := by omega
  have hw1 : IntKind.i64.wrap ((ds.length : Int) - 1) = (ds.length : Int) - 1 := IntWalk.i64_in _ (by omega)
  have hw2 : ((ds.length : Int) - 1).toNat = ds.length - 1 := by omega
  rw [hlast] at p0 p1
  clear p2 p3 p4 hdd hst hlast hpos
  have hdd1 : decide (d.day < q.day) = false := decide_eq_false (by omega)
  have hdd2 : decide (d.known < q.known) = true := decide_eq_true (by omega)
  go_wp2_with fail
  refine wp_region_quiet_lit (by kernel_rfl) (by kernel_rfl) ?_
  repeat (any_goals (first | go_big_quiet_step (fail) | quiet_step (fail)))
  refine wpQuiet_nil ?_; intro _ hw'; obtain ⟨nq, hw''⟩ := hw'; subst hw''
  clear hw1 hw2 hi0 hi1 hp hpn p0 p1 d0 d1 d2 d3 d4 hc6
  have hst := HST6.out.mono (W' := w6.drewN nq) ⟨rfl, rfl, rfl, Nat.le_refl _, fun _ _ => rfl⟩
  generalize w6.drewN nq = w7 at *
  have hc6 := hst.copy
  obtain ⟨u0, ho6⟩ := hst.out
  have og6 := hst.ofree
  obtain ⟨hq, hO, hB⟩ := hst.done
  have HO := Lib.hid hO
  have HB := Lib.hid hB
  have HQ := Lib.hid hq
  clear hst hO hB hq
  go_wp2_with fail
  have hq := HQ.out
  exact bodyPost_ret (v := .tuple #[.agg #[.slice a4 ds.length c4], .int .i64 6]) (by simp [results, Try.results20, go_sem, hq]) rfl ⟨_, rfl, HO.out, HB.out⟩
end Go.Proofs.Ytpjcaanlagibpaa

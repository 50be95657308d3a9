import Derived.Test.YtpjcaanlagibpaaRefAd2
namespace Go.Proofs.Ytpjcaanlagibpaa
open Go.RowKit
set_option linter.unusedSimpArgs false
set_option linter.unusedVariables false

set_option maxRecDepth 100000 in
set_option maxHeartbeats 4000000 in
theorem refadd_first (v : Value) (ds : List Dec) (d : Dec) (w : World) (h : SliceDecs w v ds) (hl : ds.length < 128) (hok : OKs ds) (hd : d.ok = true) (h0 : ds.length = 0) :
    Calls Try.prog 20 #[.agg #[v], d.val] w fun e w' => AddOut (ds ++ [d]) 0 w e w' := by
  obtain ⟨a0, c0, rfl⟩ := h.val
  have hli : (ds.length : Int) < 128 := by omega
  have hcp := refcopy_any (.slice a0 ds.length c0) ds
  have hck := fun W h => refcheck_val (.slice a0 ds.length c0) ds W h (by omega) hok
  have HST0 := Lib.hid (fun w4 vo => RAdd.start w (.slice a0 ds.length c0) d ds h w4 vo)
  have HCP := Lib.hid (fun W h => hcp W h (by omega))
  have HCK := Lib.hid hck
  have HVA := Lib.hid (fun W => refvalid_yes d W hd)
  have hs3 : SliceDecs (((w.alloc (.cells #[.slice a0 ds.length c0] 25)).alloc (.cells #[.int .i64 d.day, .int .i64 d.known, .int .i64 d.kind, .int .i64 d.subject, .int .i64 d.value] 27)).alloc (.cells #[.slice none 0 0] 25)) (.slice a0 ds.length c0) ds := h.below ((((Below.refl _ _).alloc (Nat.le_refl _) _).alloc (by simp) _).alloc (by simp; omega) _)
  have HS3 := Lib.hid hs3
  unfold Dec.val at *
  clear h hcp hck hs3 hok hd
  have H00 := Lib.hid h0
  clear h0
  go_enter Try.func20, Try.ntmps20
  go_wp2_with fail
  refine (HCP.out _ HS3.out).mono ?_
  rintro e w4 ⟨vo, rfl, hO4, hb4⟩
  have hst := HST0.out w4 vo hb4 hO4
  obtain ⟨a4, c4, hvo⟩ := (OwnDecs.slice hO4).val
  subst hvo
  clear hO4 hb4 HST0 HCP HS3
  have hc := hst.cell
  have HST := Lib.hid hst
  clear hst
  go_wp2_with fail
  generalize w4.alloc (.cells #[.slice a4 ds.length c4] 25) = W5 at *
  generalize w4.heap.size = Bo at *
  refine (HCK.out _ HST.out.src).mono ?_
  rintro e w5 ⟨rfl, hb5⟩
  have hst := HST.out.mono hb5
  have hc5 := hst.cell
  obtain ⟨d0, d1, d2, d3, d4⟩ := hst.dec
  have HST5 := Lib.hid hst
  clear hst hb5 HST HCK hc
  clear w4
  go_wp2_with fail
  refine (HVA.out _).mono ?_
  rintro e w6 ⟨rfl, hb6⟩
  have hst := HST5.out.mono hb6
  clear hb6 HST5 HVA d0 d1 d2 d3 d4 hc5
  have hc6 := hst.cell
  obtain ⟨d0, d1, d2, d3, d4⟩ := hst.dec
  simp only [Nat.zero_add] at d0 d1 d2 d3 d4
  have HST6 := Lib.hid hst
  clear hst
  have h0 := H00.out
  have hpn : ¬ 0 < ds.length := by omega
  have hdd1 : decide (0 < ds.length) = false := decide_eq_false hpn
  have hdd2 : decide ((0 : Int) < (ds.length : Int)) = false := decide_eq_false (by omega)
  clear h0
  go_wp2_with fail
  refine wp_region_quiet_lit (by kernel_rfl) (by kernel_rfl) ?_
  repeat (any_goals (first | go_big_quiet_step (fail) | quiet_step (fail)))
  refine wpQuiet_nil ?_; intro _ hw'; obtain ⟨nq, hw''⟩ := hw'; subst hw''
  clear hpn hdd1 hdd2 d0 d1 d2 d3 d4 hc6
  have hst := HST6.out.mono (W' := w6.drewN nq) ⟨rfl, rfl, rfl, Nat.le_refl _, fun _ _ => rfl⟩
  generalize w6.drewN nq = w7 at *
  have hst7 := hst.mono ((Below.refl _ _).alloc (Nat.le_refl _) (.cells #[.int .i64 d.day, .int .i64 d.known, .int .i64 d.kind, .int .i64 d.subject, .int .i64 d.value] 27))
  have hcc := hst.copy
  have hcf := hst.cfree
  obtain ⟨e0, e1, e2, e3, e4⟩ := hst.dec
  simp only [Nat.zero_add] at e0 e1 e2 e3 e4
  have htmp : ∀ i u, [Value.int .i64 d.day, .int .i64 d.known, .int .i64 d.kind, .int .i64 d.subject, .int .i64 d.value][i]? = some u → World.cell? (w7.alloc (.cells #[.int .i64 d.day, .int .i64 d.known, .int .i64 d.kind, .int .i64 d.subject, .int .i64 d.value] 27)) ((⟨w7.heap.size, 0, none⟩ : Addr).add i) = some u := by
    intro i u' hu'
    have hp' : (⟨w7.heap.size, 0, none⟩ : Addr).add i = ⟨w7.heap.size, i, none⟩ := by unfold Addr.add; split <;> simp_all
    rw [hp', World.cell?_alloc_at _ _ _ _ (by simp), ← hu']
    simp
  have hnr := hst.near
  have hneB : ¬ Bo = w.heap.size + 1 + 1 := by omega
  have hneC : ¬ w.heap.size + 1 + 1 = Bo := by omega
  have hown8 := hst.own
  have hrow : ∀ q, (Value.slice a4 ds.length c4).ownBlock = some q → w.heap.size + 1 + 1 + 1 ≤ q ∧ q ≠ Bo := by
    intro q hq
    rcases hown8.2 with ⟨h1, _⟩ | ⟨g, cap, cur, h1, hge, hh, _⟩
    · rw [h1] at hq; simp [Value.ownBlock] at hq
    · rw [h1] at hq; simp [Value.ownBlock] at hq
      subst hq
      refine ⟨hge, ?_⟩
      rintro rfl
      obtain ⟨c, fz, hb⟩ := hst.blk
      rw [hb] at hh
      injection hh with hh
      injection hh with _ ht _
      exact absurd ht (by decide)
  have hown : World.ownsRow (w7.alloc (.cells #[.int .i64 d.day, .int .i64 d.known, .int .i64 d.kind, .int .i64 d.subject, .int .i64 d.value] 27)) (w.heap.size + 1 + 1 + 1) 27 5 (.slice a4 ds.length c4) ds.length (flat ds) := hst7.own
  have hsz : w.heap.size + 1 + 1 + 1 ≤ (World.heap (w7.alloc (.cells #[.int .i64 d.day, .int .i64 d.known, .int .i64 d.kind, .int .i64 d.subject, .int .i64 d.value] 27))).size := Nat.le_trans hnr (Nat.le_of_lt hst7.size)
  have C2 := Lib.hid (show ∀ u ∈ [Value.int .i64 d.day, .int .i64 d.known, .int .i64 d.kind, .int .i64 d.subject, .int .i64 d.value], u.oneCell' = true from by intro u hu; simp at hu; rcases hu with rfl | rfl | rfl | rfl | rfl <;> rfl)
  have C3 := Lib.hid (show ds.length + 1 ≤ maxLen from by unfold maxLen; omega)
  have C4 := Lib.hid (show (ds.length + 1) * 40 ≤ 140737488355328 from by omega)
  have HOW := Lib.hid hown
  have HT := Lib.hid htmp
  have HZ := Lib.hid hsz
  have HR := Lib.hid hrow
  have HS7 := Lib.hid hst7
  obtain ⟨i0, hi, hz0, hz1', hz2⟩ := info_parts infoDec
  clear hown htmp hsz hrow hst hst7 hown8 HST6
  go_wp2_with (at_builtin; (refine wpList_append_own _ rfl (.tmp 55) (.tmp 57) 23 rfl (w.heap.size + 1 + 1 + 1) 27 i0 (.agg #[.int .i64 0, .int .i64 0, .int .i64 0, .int .i64 0, .int .i64 0]) 5 40 Try.underlying23 hi hz0 hz1' hz2 rfl (by decide) (.slice a4 ds.length c4) ds.length (flat ds) rfl HOW.out ⟨w7.heap.size, 0, none⟩ 1 1 [Value.int .i64 d.day, .int .i64 d.known, .int .i64 d.kind, .int .i64 d.subject, .int .i64 d.value] rfl rfl HT.out C2.out C3.out C4.out HZ.out ?_); intro v' w8 hown' hgrow _; have hst8 := radd_grown HS7.out hgrow (fun q hq => (HR.out q hq).1) (fun e => (HR.out Bo e.symm).2 rfl) hown'; have hc8 := hst8.1; have hf8 := hst8.2.1; obtain ⟨u8, ho8⟩ := hst8.2.2.1; have og8 := hst8.2.2.2.1; have HK := Lib.hid hst8.2.2.2.2; have HW := Lib.hid hown'; clear hgrow hst8; obtain ⟨g', cap', rfl⟩ := owns_succ' hown'; clear hown')
  obtain ⟨hq, hO, hB⟩ := HK.out
  exact bodyPost_ret (v := .tuple #[.agg #[.slice (some ⟨g', 0, none⟩) (ds.length + 1) cap'], .int .i64 0]) (by simp [results, Try.results20, go_sem, hq]) rfl ⟨_, rfl, hO, hB⟩
end Go.Proofs.Ytpjcaanlagibpaa

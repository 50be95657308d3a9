import Derived.Test.YtpjcaanlagibpaaRefAdd
namespace Go.Proofs.Ytpjcaanlagibpaa
open Go.RowKit
set_option linter.unusedSimpArgs false
set_option linter.unusedVariables false

set_option maxRecDepth 100000 in
set_option maxHeartbeats 4000000 in
theorem refadd_bad (v : Value) (ds : List Dec) (d : Dec) (w : World) (h : SliceDecs w v ds) (hl : ds.length < 128) (hok : OKs ds) (hd : d.ok = false) :
    Calls Try.prog 20 #[.agg #[v], d.val] w fun e w' => AddOut ds 57 w e w' := by
  obtain ⟨a0, c0, rfl⟩ := h.val
  have hli : (ds.length : Int) < 128 := by omega
  have hcp := refcopy_any (.slice a0 ds.length c0) ds
  have hck := fun W h => refcheck_val (.slice a0 ds.length c0) ds W h (by omega) hok
  have HST0 := Lib.hid (fun w4 vo => RAdd.start w (.slice a0 ds.length c0) d ds h w4 vo)
  have HCP := Lib.hid (fun W h => hcp W h (by omega))
  have HCK := Lib.hid hck
  have HVA := Lib.hid (fun W => refvalid_no d W hd)
  have hs3 : SliceDecs (((w.alloc (.cells #[.slice a0 ds.length c0] 25)).alloc (.cells #[.int .i64 d.day, .int .i64 d.known, .int .i64 d.kind, .int .i64 d.subject, .int .i64 d.value] 27)).alloc (.cells #[.slice none 0 0] 25)) (.slice a0 ds.length c0) ds := h.below ((((Below.refl _ _).alloc (Nat.le_refl _) _).alloc (by simp) _).alloc (by simp; omega) _)
  have HS3 := Lib.hid hs3
  unfold Dec.val at *
  clear h hcp hck hs3
  go_enter Try.func20, Try.ntmps20
  go_wp2_with fail
  refine (HCP.out _ HS3.out).mono ?_
  rintro e w4 ⟨vo, rfl, hO4, hb4⟩
  have hst := HST0.out w4 vo hb4 hO4
  obtain ⟨a4, c4, hvo⟩ := (OwnDecs.slice hO4).val
  subst hvo
  clear hO4 hb4 HST0 HCP HS3
  have hc := hst.cell
  have HST := Lib.hid hst
  clear hst
  go_wp2_with fail
  generalize w4.alloc (.cells #[.slice a4 ds.length c4] 25) = W5 at *
  generalize w4.heap.size = Bo at *
  refine (HCK.out _ HST.out.src).mono ?_
  rintro e w5 ⟨rfl, hb5⟩
  have hst := HST.out.mono hb5
  have hc5 := hst.cell
  obtain ⟨d0, d1, d2, d3, d4⟩ := hst.dec
  have HST5 := Lib.hid hst
  clear hst hb5 HST HCK hc
  clear w4
  go_wp2_with fail
  refine (HVA.out _).mono ?_
  rintro e w6 ⟨rfl, hb6⟩
  have hst := HST5.out.mono hb6
  clear hb6 HST5 HVA d0 d1 d2 d3 d4 hc5
  have hc6 := hst.copy
  obtain ⟨u0, ho6⟩ := hst.out
  have og6 := hst.ofree
  obtain ⟨hq, hO, hB⟩ := hst.done
  have HO := Lib.hid hO
  have HB := Lib.hid hB
  have HQ := Lib.hid hq
  clear hst hO hB hq
  go_wp2_with fail
  have hq := HQ.out
  exact bodyPost_ret (v := .tuple #[.agg #[.slice a4 ds.length c4], .int .i64 57]) (by simp [results, Try.results20, go_sem, hq]) rfl ⟨_, rfl, HO.out, HB.out⟩
end Go.Proofs.Ytpjcaanlagibpaa

import Derived.Test.YtpjcaanlagibpaaUntil
namespace Go.Proofs.Ytpjcaanlagibpaa
open Go.RowKit
set_option linter.unusedSimpArgs false
set_option linter.unusedVariables false

/-! ## What was known at the end of a day -/

def knownF (ds : List Dec) : Int := ds.foldl (fun m d => max m d.known) 0
theorem knownF_snoc (ds : List Dec) (d : Dec) : knownF (ds ++ [d]) = max (knownF ds) d.known := by unfold knownF; rw [List.foldl_append]; rfl

set_option maxRecDepth 100000 in
set_option maxHeartbeats 2000000 in
theorem known_some (g cap : Nat) (ds : List Dec) (day : Int) (w : World) (hg : g < w.heap.size) (hd : DecsAt w g 0 ds) (hok : OKs ds) (hl : ds.length ≤ 1000) (hcap : ds.length ≤ cap) :
    Calls Try.prog 30 #[.agg #[.slice (some ⟨g, 0, none⟩) ds.length cap], .int .i64 day] w fun e w' => ∃ n, n ≤ ds.length ∧ (∀ i (h : i < ds.length), ds[i].day ≤ day ↔ i < n) ∧ e = .returned (.int .i64 (knownF (ds.take n))) ∧ Below w.heap.size w w' := by
  have hli : (ds.length : Int) ≤ 1000 := by omega
  have hb1 : Below w.heap.size w (w.alloc (.cells #[.slice (some ⟨g, 0, none⟩) ds.length cap] 25)) := (Below.refl _ _).alloc (Nat.le_refl _) _
  have hg1 : g < (w.alloc (.cells #[.slice (some ⟨g, 0, none⟩) ds.length cap] 25)).heap.size := by simp; omega
  have HUN := Lib.hid (until_some g cap ds day _ hg1 (hd.below hg hb1) hok hl hcap)
  have HD := Lib.hid hd
  have HB1 := Lib.hid hb1
  clear hd hok hb1 hg1
  go_enter Try.func30, Try.ntmps30
  go_wp2_with fail
  refine HUN.out.mono ?_
  rintro e w2 ⟨n, hn, hiff, rfl, hb2⟩
  have hni : (n : Int) ≤ 1000 := by omega
  have HB2 := Lib.hid (HB1.out.trans (hb2.mono HB1.out.size))
  have HI := Lib.hid hiff
  clear hb2 HB1 HUN hiff
  go_wp2_with fail
  go_loopw [5, 7, 12] (fun m _ i wr => ∃ k : Nat, k ≤ n ∧ i = .int .i64 k ∧ m = .int .i64 (knownF (ds.take k)) ∧ Below w.heap.size w wr) (fun _ _ i _ => n - (intOf i).toNat)
  case atStart => exact ⟨0, Nat.zero_le _, rfl, rfl, HB2.out⟩
  case round =>
    obtain ⟨k, hk, rfl, rfl, hbe⟩ := hrel
    by_cases hlt : k < n
    · obtain ⟨c0, c1, c2, c3, c4⟩ := (HD.out k (by omega)).of_cells (w' := wr) (fun o => hbe.cell (p := ⟨g, o, none⟩) hg)
      simp only [Nat.zero_add] at c0 c1 c2 c3 c4
      have hlti : (k : Int) < (n : Int) := by omega
      have hgw : g < wr.heap.size := Nat.lt_of_lt_of_le hg hbe.size
      have hkd : k < ds.length := by omega
      have HT := Lib.hid (show knownF (ds.take (k + 1)) = max (knownF (ds.take k)) (ds[k]'(by omega)).known from by rw [take_snoc_dec ds k (by omega), knownF_snoc])
      have HBE := Lib.hid (hbe.trans (((Below.refl wr.heap.size wr).alloc (Nat.le_refl _) (.cells #[.int .i64 (ds[k]'(by omega)).day, .int .i64 (ds[k]'(by omega)).known, .int .i64 (ds[k]'(by omega)).kind, .int .i64 (ds[k]'(by omega)).subject, .int .i64 (ds[k]'(by omega)).value] 27)).mono hbe.size))
      clear hbe
      generalize knownF (ds.take k) = m at *
      go_wp2_with fail
      exact ⟨⟨k + 1, by omega, by go_num, by rw [HT.out], HBE.out⟩, by simp [intOf]; omega⟩
    · have hkn : k = n := by omega
      subst hkn
      have HBE := Lib.hid hbe
      clear hbe
      generalize hm : knownF (ds.take k) = m at *
      go_wp2_with fail
      go_ret
      exact ⟨k, hn, HI.out, by rw [hm]; rfl, HBE.out⟩
end Go.Proofs.Ytpjcaanlagibpaa

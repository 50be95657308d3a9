import Derived.Test.YtpjcaanlagibpaaKnown
namespace Go.Proofs.Ytpjcaanlagibpaa
open Go.RowKit
set_option linter.unusedSimpArgs false
set_option linter.unusedVariables false

set_option maxRecDepth 100000 in
set_option maxHeartbeats 2000000 in
theorem then_some (g cap : Nat) (ds : List Dec) (day : Int) (w : World) (hg : g < w.heap.size) (hd : DecsAt w g 0 ds) (hok : OKs ds) (hl : ds.length ≤ 1000) (hcap : ds.length ≤ cap) :
    Calls Try.prog 32 #[.agg #[.slice (some ⟨g, 0, none⟩) ds.length cap], .int .i64 day] w fun e w' => ∃ n v, n ≤ ds.length ∧ (∀ i (h : i < ds.length), ds[i].day ≤ day ↔ i < n) ∧ e = .returned (.agg #[v]) ∧ OwnDecs w' w.heap.size v (ds.take n) ∧ Below w.heap.size w w' := by
  have hb2 : Below w.heap.size w ((w.alloc (.cells #[.slice (some ⟨g, 0, none⟩) ds.length cap] 25)).alloc (.cells #[.slice none 0 0] 25)) := ((Below.refl _ _).alloc (Nat.le_refl _) _).alloc (by simp) _
  have hc2 : World.cell? ((w.alloc (.cells #[.slice (some ⟨g, 0, none⟩) ds.length cap] 25)).alloc (.cells #[.slice none 0 0] 25)) ⟨w.heap.size + 1, 0, none⟩ = some (.slice none 0 0) := World.cell?_alloc_at _ _ _ _ (by simp)
  have hf2 : World.frozen? ((w.alloc (.cells #[.slice (some ⟨g, 0, none⟩) ds.length cap] 25)).alloc (.cells #[.slice none 0 0] 25)) ⟨w.heap.size + 1, 0, none⟩ = false := by rw [frozen?_alloc_cells, frozen?_alloc_cells]; exact frozen_beyond _ _ _ (by omega)
  have hz2 : (World.heap ((w.alloc (.cells #[.slice (some ⟨g, 0, none⟩) ds.length cap] 25)).alloc (.cells #[.slice none 0 0] 25))).size = w.heap.size + 2 := by simp
  have hg2 : g < (World.heap ((w.alloc (.cells #[.slice (some ⟨g, 0, none⟩) ds.length cap] 25)).alloc (.cells #[.slice none 0 0] 25))).size := by omega
  have hm2 := hd.below hg hb2
  have HUN := Lib.hid (until_some g cap ds day _ hg2 hm2 hok hl hcap)
  have HM2 := Lib.hid hm2
  have HC2 := Lib.hid hc2
  have HF2 := Lib.hid hf2
  have HZ2 := Lib.hid hz2
  have HB2 := Lib.hid hb2
  have HG2 := Lib.hid hg2
  clear hd hok hb2 hc2 hf2 hz2 hg2 hm2
  go_enter Try.func32, Try.ntmps32
  go_wp2_with fail
  generalize ((w.alloc (.cells #[.slice (some ⟨g, 0, none⟩) ds.length cap] 25)).alloc (.cells #[.slice none 0 0] 25)) = W2 at *
  refine HUN.out.mono ?_
  rintro e w3 ⟨n, hn, hiff, rfl, hb3⟩
  have hz := HZ2.out
  have hsd : SliceDecs w3 (.slice (some ⟨g, 0, none⟩) n cap) (ds.take n) := by
    have hl2 : (ds.take n).length = n := by simp; omega
    refine .inr ⟨g, cap, by rw [hl2], Nat.lt_of_lt_of_le HG2.out hb3.size, by omega, ?_⟩
    intro i hi
    rw [List.getElem_take]
    exact (HM2.out.below HG2.out hb3) i (by omega)
  have HCL := Lib.hid (clone_any (.slice (some ⟨g, 0, none⟩) n cap) (ds.take n) w3 hsd (by simp; omega))
  have hc3 := (hb3.cell (p := ⟨w.heap.size + 1, 0, none⟩) (by show w.heap.size + 1 < _; omega)).trans HC2.out
  have hf3 := (hb3.frozen (p := ⟨w.heap.size + 1, 0, none⟩) (by show w.heap.size + 1 < _; omega)).trans HF2.out
  have hz3 : w.heap.size + 2 ≤ w3.heap.size := by have := hb3.size; omega
  have HB3 := Lib.hid (HB2.out.trans (hb3.mono HB2.out.size))
  have HI := Lib.hid hiff
  clear hb3 hsd hiff hz HUN HB2 HC2 HF2 HZ2 HM2 HG2
  go_wp2_with fail
  refine HCL.out.mono ?_
  rintro e w4 ⟨v, rfl, hO4, hb4⟩
  have hc4 := (hb4.cell (p := ⟨w.heap.size + 1, 0, none⟩) (by show w.heap.size + 1 < _; omega)).trans hc3
  have hf4 := (hb4.frozen (p := ⟨w.heap.size + 1, 0, none⟩) (by show w.heap.size + 1 < _; omega)).trans hf3
  obtain ⟨a4, n4, m4, rfl⟩ := hO4.slice_val
  have hq : World.cell? (w4.setCell ⟨w.heap.size + 1, 0, none⟩ (.slice a4 n4 m4)) ⟨w.heap.size + 1, 0, none⟩ = some (.slice a4 n4 m4) := World.cell?_setCell_same _ _ _ hc4
  have HB := Lib.hid ((HB3.out.trans (hb4.mono HB3.out.size)).setCell (p := ⟨w.heap.size + 1, 0, none⟩) (by show w.heap.size ≤ w.heap.size + 1; omega) (.slice a4 n4 m4))
  have HO := Lib.hid (hO4.kept' (w' := w4.setCell ⟨w.heap.size + 1, 0, none⟩ (.slice a4 n4 m4)) (base' := w.heap.size) (by omega) fun k hk _ => Below.heap_setCell _ _ _ _ (by show k ≠ w.heap.size + 1; omega))
  have HQ := Lib.hid hq
  clear hq hO4 hb4 hc3 hf3 HCL HB3 hz3
  go_wp2_with fail
  have hq := HQ.out
  exact bodyPost_ret (v := .agg #[.slice a4 n4 m4]) (by simp [results, Try.results32, go_sem, hq]) rfl ⟨n, _, hn, HI.out, rfl, HO.out, HB.out⟩
end Go.Proofs.Ytpjcaanlagibpaa

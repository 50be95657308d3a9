import Derived.Test.YtpjcaanlagibpaaChd
namespace Go.Proofs.Ytpjcaanlagibpaa
open Go.RowKit
set_option linter.unusedSimpArgs false
set_option linter.unusedVariables false

set_option maxRecDepth 100000 in
set_option maxHeartbeats 2000000 in
/-- ledger.Differ of a beginning and the whole -/
theorem ldiffer_pre (v1 v2 : Value) (n : Nat) (es : List Dec) (w : World) (h1 : SliceDecs w v1 (es.take n)) (h2 : SliceDecs w v2 es) (hn : n ≤ es.length) (hl : es.length ≤ 1000) :
    Calls Try.prog 25 #[.agg #[v1], .agg #[v2]] w fun e w' => e = .returned (.tuple #[.int .i64 (if n < es.length then (n : Int) else 0), .bool (decide (n < es.length))]) ∧ Below w.heap.size w w' := by
  have hln : (es.take n).length = n := by simp; omega
  obtain ⟨a1, c1, rfl⟩ := h1.form
  obtain ⟨a2, c2, rfl⟩ := h2.form
  rw [hln] at h1 ⊢
  have hli : (es.length : Int) ≤ 1000 := by omega
  have hni : (n : Int) ≤ (es.length : Int) := by omega
  have hmn : min (n : Int) (es.length : Int) = (n : Int) := by omega
  have hb2 : Below w.heap.size w ((w.alloc (.cells #[.slice a1 n c1] 25)).alloc (.cells #[.slice a2 es.length c2] 25)) := ((Below.refl _ _).alloc (Nat.le_refl _) _).alloc (by simp) _
  have q1 : World.cell? ((w.alloc (.cells #[.slice a1 n c1] 25)).alloc (.cells #[.slice a2 es.length c2] 25)) ⟨w.heap.size, 0, none⟩ = some (.slice a1 n c1) := by
    rw [World.cell?_alloc_past _ _ _ (by simp)]; exact World.cell?_alloc_at _ _ _ _ rfl
  have q2 : World.cell? ((w.alloc (.cells #[.slice a1 n c1] 25)).alloc (.cells #[.slice a2 es.length c2] 25)) ⟨w.heap.size + 1, 0, none⟩ = some (.slice a2 es.length c2) := World.cell?_alloc_at _ _ _ _ (by simp)
  have q3 : w.heap.size + 1 < ((w.alloc (.cells #[.slice a1 n c1] 25)).alloc (.cells #[.slice a2 es.length c2] 25)).heap.size := by simp
  have HS1 := Lib.hid (h1.below hb2)
  have HS2 := Lib.hid (h2.below hb2)
  have HB2 := Lib.hid hb2
  have HQ3 := Lib.hid q3
  have HLN := Lib.hid hln
  clear h1 h2 hb2 q3 hln
  go_enter Try.func25, Try.ntmps25
  go_wp2_with fail
  try rw [hmn]
  clear hmn
  generalize ((w.alloc (.cells #[.slice a1 n c1] 25)).alloc (.cells #[.slice a2 es.length c2] 25)) = W2 at *
  have HQ1 := Lib.hid q1
  have HQ2 := Lib.hid q2
  clear q1 q2
  go_loopw [16] (fun i wr => ∃ k : Nat, k ≤ n ∧ i = .int .i64 k ∧ Below W2.heap.size W2 wr) (fun i _ => n - (intOf i).toNat)
  case atStart => exact ⟨0, Nat.zero_le _, rfl, Below.refl _ _⟩
  case round =>
    obtain ⟨k, hk, rfl, hb⟩ := hrel
    have b0 := (hb.cell (p := ⟨w.heap.size, 0, none⟩) (by show w.heap.size < _; have := HQ3.out; omega)).trans HQ1.out
    have b1 := (hb.cell (p := ⟨w.heap.size + 1, 0, none⟩) HQ3.out).trans HQ2.out
    by_cases hlt : k < n
    · have hlti : (k : Int) < (n : Int) := by omega
      have hkl : (k : Int) < (es.length : Int) := by omega
      have hki : (k : Int) ≤ 1000 := by omega
      have hkk : k < es.length := by omega
      obtain ⟨g1, hg1, hd1⟩ : ∃ g, a1 = some ⟨g, 0, none⟩ ∧ DecAt wr g (0 + k * 5) es[k] := by
        rcases HS1.out.below hb with ⟨h5, _⟩ | ⟨g, cap, h5, _, _, h6⟩
        · injection h5 with _ h7 _; omega
        · injection h5 with h7 h8 h9
          have h10 := h6 k (by rw [HLN.out]; exact hlt)
          rw [List.getElem_take] at h10
          exact ⟨g, h7, h10⟩
      obtain ⟨g2, hg2, hd2⟩ : ∃ g, a2 = some ⟨g, 0, none⟩ ∧ DecAt wr g (0 + k * 5) es[k] := by
        rcases HS2.out.below hb with ⟨h5, _⟩ | ⟨g, cap, h5, _, _, h6⟩
        · injection h5 with _ h7 _; omega
        · injection h5 with h7 h8 h9
          exact ⟨g, h7, h6 k hkk⟩
      subst hg1 hg2
      obtain ⟨x0, x1, x2, x3, x4⟩ := hd1
      obtain ⟨y0, y1, y2, y3, y4⟩ := hd2
      simp only [Nat.zero_add] at x0 x1 x2 x3 x4 y0 y1 y2 y3 y4
      have HB := Lib.hid hb
      clear hb
      generalize es[k] = d at *
      go_wp2_with fail
      go_quiet (fail)
      have HBd := Lib.hid (below_drewN HB.out nq)
      clear x0 x1 x2 x3 x4 y0 y1 y2 y3 y4 b0 b1
      generalize wr.drewN nq = wq at *
      go_wp2_with fail
      exact ⟨⟨k + 1, by omega, by go_num, HBd.out⟩, by simp [intOf]; omega⟩
    · have hge : k = n := by omega
      subst hge
      have hgi : ¬ ((k : Int) < (k : Int)) := by omega
      have HF := Lib.hid (HB2.out.trans (hb.mono HB2.out.size))
      clear hb
      by_cases he : k < es.length
      · have he2 : ¬ (k : Int) = (es.length : Int) := by omega
        have he3 : (k == es.length) = false := by simp; omega
        go_wp2_with fail
        go_ret2
        exact ⟨rfl, HF.out⟩
      · have he2 : k = es.length := by omega
        subst he2
        go_wp2_with fail
        go_ret2
        exact ⟨rfl, HF.out⟩

set_option maxRecDepth 100000 in
set_option maxHeartbeats 2000000 in
/-- ledger.Then of any ledger in order -/
theorem then_any (v : Value) (ds : List Dec) (day : Int) (w : World) (h : SliceDecs w v ds) (hok : OKs ds) (hl : ds.length ≤ 1000) :
    Calls Try.prog 32 #[.agg #[v], .int .i64 day] w fun e w' => ∃ u, e = .returned (.agg #[u]) ∧ OwnDecs w' w.heap.size u (upTo ds day) ∧ Below w.heap.size w w' := by
  obtain ⟨ad, m, rfl⟩ := h.form
  have hb2 : Below w.heap.size w ((w.alloc (.cells #[.slice ad ds.length m] 25)).alloc (.cells #[.slice none 0 0] 25)) := ((Below.refl _ _).alloc (Nat.le_refl _) _).alloc (by simp) _
  have hc2 : World.cell? ((w.alloc (.cells #[.slice ad ds.length m] 25)).alloc (.cells #[.slice none 0 0] 25)) ⟨w.heap.size + 1, 0, none⟩ = some (.slice none 0 0) := World.cell?_alloc_at _ _ _ _ (by simp)
  have hf2 : World.frozen? ((w.alloc (.cells #[.slice ad ds.length m] 25)).alloc (.cells #[.slice none 0 0] 25)) ⟨w.heap.size + 1, 0, none⟩ = false := by rw [frozen?_alloc_cells, frozen?_alloc_cells]; exact frozen_beyond _ _ _ (by omega)
  have hz2 : (World.heap ((w.alloc (.cells #[.slice ad ds.length m] 25)).alloc (.cells #[.slice none 0 0] 25))).size = w.heap.size + 2 := by simp
  have HUN := Lib.hid (until_any (.slice ad ds.length m) ds day _ (h.below hb2) hok hl)
  have HC2 := Lib.hid hc2
  have HF2 := Lib.hid hf2
  have HZ2 := Lib.hid hz2
  have HB2 := Lib.hid hb2
  clear h hok hb2 hc2 hf2 hz2
  go_enter Try.func32, Try.ntmps32
  go_wp2_with fail
  generalize ((w.alloc (.cells #[.slice ad ds.length m] 25)).alloc (.cells #[.slice none 0 0] 25)) = W2 at *
  refine HUN.out.mono ?_
  rintro e w3 ⟨u, rfl, hsu, hb3⟩
  have hz := HZ2.out
  have hul := upTo_length ds day
  have HCL := Lib.hid (clone_any u (upTo ds day) w3 hsu (by omega))
  obtain ⟨au, mu, rfl⟩ := hsu.form
  have hc3 := (hb3.cell (p := ⟨w.heap.size + 1, 0, none⟩) (by show w.heap.size + 1 < _; omega)).trans HC2.out
  have hf3 := (hb3.frozen (p := ⟨w.heap.size + 1, 0, none⟩) (by show w.heap.size + 1 < _; omega)).trans HF2.out
  have hz3 : w.heap.size + 2 ≤ w3.heap.size := by have := hb3.size; omega
  have HB3 := Lib.hid (HB2.out.trans (hb3.mono HB2.out.size))
  clear hb3 hsu hz HUN HB2 HC2 HF2 HZ2 hul
  go_wp2_with fail
  refine HCL.out.mono ?_
  rintro e w4 ⟨v, rfl, hO4, hb4⟩
  have hc4 := (hb4.cell (p := ⟨w.heap.size + 1, 0, none⟩) (by show w.heap.size + 1 < _; omega)).trans hc3
  have hf4 := (hb4.frozen (p := ⟨w.heap.size + 1, 0, none⟩) (by show w.heap.size + 1 < _; omega)).trans hf3
  obtain ⟨a4, n4, m4, rfl⟩ := hO4.slice_val
  have hq : World.cell? (w4.setCell ⟨w.heap.size + 1, 0, none⟩ (.slice a4 n4 m4)) ⟨w.heap.size + 1, 0, none⟩ = some (.slice a4 n4 m4) := World.cell?_setCell_same _ _ _ hc4
  have HB := Lib.hid ((HB3.out.trans (hb4.mono HB3.out.size)).setCell (p := ⟨w.heap.size + 1, 0, none⟩) (by show w.heap.size ≤ w.heap.size + 1; omega) (.slice a4 n4 m4))
  have HO := Lib.hid (hO4.kept' (w' := w4.setCell ⟨w.heap.size + 1, 0, none⟩ (.slice a4 n4 m4)) (base' := w.heap.size) (by omega) fun k hk _ => Below.heap_setCell _ _ _ _ (by show k ≠ w.heap.size + 1; omega))
  have HQ := Lib.hid hq
  clear hq hO4 hb4 hc3 hf3 HCL HB3 hz3
  go_wp2_with fail
  have hq := HQ.out
  exact bodyPost_ret (v := .agg #[.slice a4 n4 m4]) (by simp [results, Try.results32, go_sem, hq]) rfl ⟨_, rfl, HO.out, HB.out⟩
end Go.Proofs.Ytpjcaanlagibpaa

import Derived.Test.YtpjcaanlagibpaaRefA
namespace Go.Proofs.Ytpjcaanlagibpaa
open Go.RowKit
set_option linter.unusedSimpArgs false
set_option linter.unusedVariables false

/-- the variables of the reference's Add: the ledger, the decision, the result, and (behind them) the copy -/
structure RAdd (w W : World) (Bo : Nat) (v vo : Value) (ds : List Dec) (d : Dec) : Prop where
  below : Below w.heap.size w W
  cell : W.cell? ⟨w.heap.size, 0, none⟩ = some v
  dec : DecAt W (w.heap.size + 1) 0 d
  out : ∃ u, W.cell? ⟨w.heap.size + 1 + 1, 0, none⟩ = some u
  ofree : W.frozen? ⟨w.heap.size + 1 + 1, 0, none⟩ = false
  copy : W.cell? ⟨Bo, 0, none⟩ = some vo
  cfree : W.frozen? ⟨Bo, 0, none⟩ = false
  blk : ∃ c fz, W.heap[Bo]? = some (.cells c 25 fz)
  src : SliceDecs W v ds
  own : W.ownsRow (w.heap.size + 1 + 1 + 1) 27 5 vo ds.length (flat ds)
  near : w.heap.size + 1 + 1 + 1 ≤ Bo
  size : Bo < W.heap.size

theorem RAdd.mono {w W W' : World} {Bo : Nat} {v vo : Value} {ds : List Dec} {d : Dec} (h : RAdd w W Bo v vo ds d) (hb : Below W.heap.size W W') : RAdd w W' Bo v vo ds d := by
  have hs := h.size
  have hn := h.near
  refine ⟨h.below.trans (hb.mono h.below.size), ?_, ?_, ?_, ?_, ?_, ?_, ?_, h.src.below hb, OwnDecs.below (base := w.heap.size + 1 + 1 + 1) h.own hb, hn, Nat.lt_of_lt_of_le hs hb.size⟩
  · exact (hb.cell (p := ⟨w.heap.size, 0, none⟩) (by show w.heap.size < _; omega)).trans h.cell
  · exact h.dec.of_cells (fun o => hb.cell (p := ⟨w.heap.size + 1, o, none⟩) (by show w.heap.size + 1 < _; omega))
  · obtain ⟨u, hu⟩ := h.out
    exact ⟨u, (hb.cell (p := ⟨w.heap.size + 1 + 1, 0, none⟩) (by show w.heap.size + 1 + 1 < _; omega)).trans hu⟩
  · exact (hb.frozen (p := ⟨w.heap.size + 1 + 1, 0, none⟩) (by show w.heap.size + 1 + 1 < _; omega)).trans h.ofree
  · exact (hb.cell (p := ⟨Bo, 0, none⟩) hs).trans h.copy
  · exact (hb.frozen (p := ⟨Bo, 0, none⟩) hs).trans h.cfree
  · obtain ⟨c, fz, hc⟩ := h.blk
    exact ⟨c, fz, (hb.block Bo hs).trans hc⟩

/-- the result is stored: what is returned -/
theorem RAdd.done {w W : World} {Bo : Nat} {v vo : Value} {ds : List Dec} {d : Dec} (h : RAdd w W Bo v vo ds d) :
    World.cell? (W.setCell ⟨w.heap.size + 1 + 1, 0, none⟩ vo) ⟨w.heap.size + 1 + 1, 0, none⟩ = some vo ∧ OwnDecs (W.setCell ⟨w.heap.size + 1 + 1, 0, none⟩ vo) w.heap.size vo ds ∧ Below w.heap.size w (W.setCell ⟨w.heap.size + 1 + 1, 0, none⟩ vo) := by
  obtain ⟨u, hu⟩ := h.out
  refine ⟨World.cell?_setCell_same _ _ _ hu, ?_, h.below.setCell (by show w.heap.size ≤ w.heap.size + 1 + 1; omega) _⟩
  exact OwnDecs.kept' (base := w.heap.size + 1 + 1 + 1) h.own (by omega) fun k hk _ => Below.heap_setCell _ _ _ _ (by show k ≠ w.heap.size + 1 + 1; omega)

theorem SliceDecs.val {w : World} {v : Value} {ds : List Dec} (h : SliceDecs w v ds) : ∃ a m, v = .slice a ds.length m := by
  rcases h with ⟨rfl, rfl⟩ | ⟨g, cap, rfl, _⟩
  · exact ⟨_, _, rfl⟩
  · exact ⟨_, _, rfl⟩

theorem RAdd.start (w : World) (v : Value) (d : Dec) (ds : List Dec) (hs : SliceDecs w v ds) (w4 : World) (vo : Value)
    (hb4 : Below (((w.alloc (.cells #[v] 25)).alloc (.cells #[.int .i64 d.day, .int .i64 d.known, .int .i64 d.kind, .int .i64 d.subject, .int .i64 d.value] 27)).alloc (.cells #[.slice none 0 0] 25)).heap.size (((w.alloc (.cells #[v] 25)).alloc (.cells #[.int .i64 d.day, .int .i64 d.known, .int .i64 d.kind, .int .i64 d.subject, .int .i64 d.value] 27)).alloc (.cells #[.slice none 0 0] 25)) w4)
    (hO : OwnDecs w4 (((w.alloc (.cells #[v] 25)).alloc (.cells #[.int .i64 d.day, .int .i64 d.known, .int .i64 d.kind, .int .i64 d.subject, .int .i64 d.value] 27)).alloc (.cells #[.slice none 0 0] 25)).heap.size vo ds) :
    RAdd w (w4.alloc (.cells #[vo] 25)) w4.heap.size v vo ds d := by
  have hb3 : Below w.heap.size w (((w.alloc (.cells #[v] 25)).alloc (.cells #[.int .i64 d.day, .int .i64 d.known, .int .i64 d.kind, .int .i64 d.subject, .int .i64 d.value] 27)).alloc (.cells #[.slice none 0 0] 25)) := (((Below.refl _ _).alloc (Nat.le_refl _) _).alloc (by simp) _).alloc (by simp; omega) _
  have c0' : World.cell? (((w.alloc (.cells #[v] 25)).alloc (.cells #[.int .i64 d.day, .int .i64 d.known, .int .i64 d.kind, .int .i64 d.subject, .int .i64 d.value] 27)).alloc (.cells #[.slice none 0 0] 25)) ⟨w.heap.size, 0, none⟩ = some v := by
    rw [World.cell?_alloc_past _ _ _ (by simp; omega), World.cell?_alloc_past _ _ _ (by simp)]; exact World.cell?_alloc_at _ _ _ _ (by simp)
  have d0' : DecAt (((w.alloc (.cells #[v] 25)).alloc (.cells #[.int .i64 d.day, .int .i64 d.known, .int .i64 d.kind, .int .i64 d.subject, .int .i64 d.value] 27)).alloc (.cells #[.slice none 0 0] 25)) (w.heap.size + 1) 0 d := by
    unfold DecAt
    simp only [World.cell?_alloc_past (o := (.cells #[.slice none 0 0] 25)) (hn := show w.heap.size + 1 < ((w.alloc (.cells #[v] 25)).alloc (.cells #[.int .i64 d.day, .int .i64 d.known, .int .i64 d.kind, .int .i64 d.subject, .int .i64 d.value] 27)).heap.size by simp)]
    exact ⟨World.cell?_alloc_at _ _ _ _ (by simp), World.cell?_alloc_at _ _ _ _ (by simp), World.cell?_alloc_at _ _ _ _ (by simp), World.cell?_alloc_at _ _ _ _ (by simp), World.cell?_alloc_at _ _ _ _ (by simp)⟩
  have o0' : World.cell? (((w.alloc (.cells #[v] 25)).alloc (.cells #[.int .i64 d.day, .int .i64 d.known, .int .i64 d.kind, .int .i64 d.subject, .int .i64 d.value] 27)).alloc (.cells #[.slice none 0 0] 25)) ⟨w.heap.size + 1 + 1, 0, none⟩ = some (.slice none 0 0) := World.cell?_alloc_at _ _ _ _ (by simp)
  have g0' : World.frozen? (((w.alloc (.cells #[v] 25)).alloc (.cells #[.int .i64 d.day, .int .i64 d.known, .int .i64 d.kind, .int .i64 d.subject, .int .i64 d.value] 27)).alloc (.cells #[.slice none 0 0] 25)) ⟨w.heap.size + 1 + 1, 0, none⟩ = false := by
    rw [frozen?_alloc_cells, frozen?_alloc_cells, frozen?_alloc_cells]; exact frozen_beyond _ _ _ (by omega)
  have z3 : (((w.alloc (.cells #[v] 25)).alloc (.cells #[.int .i64 d.day, .int .i64 d.known, .int .i64 d.kind, .int .i64 d.subject, .int .i64 d.value] 27)).alloc (.cells #[.slice none 0 0] 25)).heap.size = w.heap.size + 1 + 1 + 1 := by simp
  generalize (((w.alloc (.cells #[v] 25)).alloc (.cells #[.int .i64 d.day, .int .i64 d.known, .int .i64 d.kind, .int .i64 d.subject, .int .i64 d.value] 27)).alloc (.cells #[.slice none 0 0] 25)) = W3 at *
  have hz4 := hb4.size
  have hb5 : Below W3.heap.size W3 (w4.alloc (.cells #[vo] 25)) := hb4.alloc hb4.size _
  refine ⟨hb3.trans (hb5.mono hb3.size), ?_, ?_, ?_, ?_, World.cell?_alloc_at _ _ _ _ rfl, ?_, ⟨#[vo], (0, 0), ?_⟩, (hs.below hb3).below hb5, ?_, by omega, by simp⟩
  · exact (hb5.cell (p := ⟨w.heap.size, 0, none⟩) (by show w.heap.size < _; omega)).trans c0'
  · exact d0'.of_cells (fun o => hb5.cell (p := ⟨w.heap.size + 1, o, none⟩) (by show w.heap.size + 1 < _; omega))
  · exact ⟨_, (hb5.cell (p := ⟨w.heap.size + 1 + 1, 0, none⟩) (by show w.heap.size + 1 + 1 < _; omega)).trans o0'⟩
  · exact (hb5.frozen (p := ⟨w.heap.size + 1 + 1, 0, none⟩) (by show w.heap.size + 1 + 1 < _; omega)).trans g0'
  · rw [frozen?_alloc_cells]; exact frozen_beyond _ _ _ (Nat.le_refl _)
  · show (w4.heap.push _)[w4.heap.size]? = some _; simp
  · rw [z3] at hO
    exact OwnDecs.below (base := w.heap.size + 1 + 1 + 1) hO ((Below.refl _ _).alloc (Nat.le_refl _) _)
end Go.Proofs.Ytpjcaanlagibpaa

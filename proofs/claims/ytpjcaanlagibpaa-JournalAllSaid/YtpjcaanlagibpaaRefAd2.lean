import Derived.Test.YtpjcaanlagibpaaRefAd1
namespace Go.Proofs.Ytpjcaanlagibpaa
open Go.RowKit
set_option linter.unusedSimpArgs false
set_option linter.unusedVariables false

/-- the copy grew by one: what lies where, and what is returned in the end -/
theorem radd_grown {w W w8 : World} {Bo : Nat} {v vo v' : Value} {ds : List Dec} {d : Dec} {row : Option Nat} (h : RAdd w W Bo v vo ds d) (hg : W.grownBy w8 row) (hr : ∀ q, row = some q → w.heap.size + 1 + 1 + 1 ≤ q) (hne : some Bo ≠ row)
    (hown : w8.ownsRow (w.heap.size + 1 + 1 + 1) 27 5 v' (ds.length + 1) (flat ds ++ [Value.int .i64 d.day, .int .i64 d.known, .int .i64 d.kind, .int .i64 d.subject, .int .i64 d.value])) :
    w8.cell? ⟨Bo, 0, none⟩ = some vo ∧ w8.frozen? ⟨Bo, 0, none⟩ = false ∧ (∃ u, w8.cell? ⟨w.heap.size + 1 + 1, 0, none⟩ = some u) ∧ w8.frozen? ⟨w.heap.size + 1 + 1, 0, none⟩ = false ∧
    (World.cell? ((w8.setCell ⟨Bo, 0, none⟩ v').setCell ⟨w.heap.size + 1 + 1, 0, none⟩ v') ⟨w.heap.size + 1 + 1, 0, none⟩ = some v' ∧ OwnDecs ((w8.setCell ⟨Bo, 0, none⟩ v').setCell ⟨w.heap.size + 1 + 1, 0, none⟩ v') w.heap.size v' (ds ++ [d]) ∧ Below w.heap.size w ((w8.setCell ⟨Bo, 0, none⟩ v').setCell ⟨w.heap.size + 1 + 1, 0, none⟩ v')) := by
  have hn := h.near
  have hs := h.size
  have hK : Below (w.heap.size + 1 + 1 + 1) W w8 := (Below.refl _ _).grown hg (by omega) hr
  have hbo : w8.heap[Bo]? = W.heap[Bo]? := hg.block Bo hs hne
  obtain ⟨u, hu⟩ := h.out
  have hou : w8.cell? ⟨w.heap.size + 1 + 1, 0, none⟩ = some u := (hK.cell (p := ⟨w.heap.size + 1 + 1, 0, none⟩) (by show w.heap.size + 1 + 1 < _; omega)).trans hu
  have hof : w8.frozen? ⟨w.heap.size + 1 + 1, 0, none⟩ = false := (hK.frozen (p := ⟨w.heap.size + 1 + 1, 0, none⟩) (by show w.heap.size + 1 + 1 < _; omega)).trans h.ofree
  have hne2 : Bo ≠ w.heap.size + 1 + 1 := by omega
  refine ⟨(World.cell?_of_block (w := W) hbo).trans h.copy, (World.frozen?_of_block (w := W) hbo).trans h.cfree, ⟨u, hou⟩, hof, World.cell?_setCell_same _ _ _ (by rw [World.cell?_setCell_far _ _ _ _ hne2]; exact hou), ?_, ?_⟩
  · have hO8 : OwnDecs w8 (w.heap.size + 1 + 1 + 1) v' (ds ++ [d]) := by
      unfold OwnDecs
      rw [flat_snoc, show (ds ++ [d]).length = ds.length + 1 from by simp]
      exact hown
    obtain ⟨hl, hx⟩ := hown
    rcases hx with ⟨_, h1⟩ | ⟨g, cap, cur, hv, hge, hh, hn1, hc1, hs1, ht1⟩
    · omega
    have hgB : g ≠ Bo := by
      rintro rfl
      obtain ⟨c, fz, hb⟩ := h.blk
      rw [hbo, hb] at hh
      injection hh with hh
      injection hh with _ ht _
      exact absurd ht (by decide)
    unfold OwnDecs
    rw [flat_snoc, show (ds ++ [d]).length = ds.length + 1 from by simp]
    refine ⟨hl, .inr ⟨g, cap, cur, hv, by omega, ?_, hn1, hc1, hs1, ht1⟩⟩
    rw [Below.heap_setCell _ _ _ _ (by show g ≠ w.heap.size + 1 + 1; omega), Below.heap_setCell _ _ _ _ (by show g ≠ Bo; exact hgB)]
    exact hh
  · exact ((h.below.trans (hK.mono (by omega))).setCell (by show w.heap.size ≤ Bo; omega) _).setCell (by show w.heap.size ≤ w.heap.size + 1 + 1; omega) _
end Go.Proofs.Ytpjcaanlagibpaa

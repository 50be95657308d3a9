import Derived.Test.YtiognfhjmcbbpaaDoorCRow
namespace Go.Proofs.YtiognfhjmcbbpaaDoor
open Go.RowKit
set_option linter.unusedSimpArgs false
set_option linter.unusedVariables false

/-! ## Suite -/

def suNone : Array Value := #[.int .i64 0, .string ⟨#[]⟩, .int .i64 0, .int .i64 0, .int .i64 0, .int .i64 0, .int .i64 0, .int .i64 0, .int .i64 0, .int .i64 0, .int .i64 0, .int .i64 0]
def suF (c : Int) : Array Value × Int := if 1 ≤ c ∧ c ≤ 16 then ((suRow c.toNat).cells c, 0) else (suNone, 8)
set_option maxRecDepth 100000 in
set_option maxHeartbeats 4000000 in
theorem suite_any (c : Int) (w : World) (he : SuAt w) :
    Calls Tryd.prog 11 #[.int .i64 c] w fun e w' => e = .returned (.tuple #[.agg (suF c).1, .int .i64 (suF c).2]) ∧ Below w.heap.size w w' := by
  have b0 : Below w.heap.size w (w.alloc (.cells suNone 29)) := (Below.refl _ _).alloc (Nat.le_refl _) _
  have r0 : (w.alloc (.cells suNone 29)).heap[w.heap.size]? = some (.cells suNone 29 (0, 0)) := MapKept.heap_alloc w _ |>.1
  have HB0 := Lib.hid b0
  have HR0 := Lib.hid r0
  have HZ0 := Lib.hid (show w.heap.size < (w.alloc (.cells suNone 29)).heap.size by simp)
  unfold suNone at HB0 HR0 HZ0
  unfold suF
  clear b0 r0
  by_cases h : 1 ≤ c ∧ c ≤ 16
  · rw [if_pos h]
    have hrow := row_any c.toNat (by omega) _ (he.below HB0.out)
    rw [show ((c.toNat : Nat) : Int) = c by omega] at hrow
    generalize suRow c.toNat = r at *
    obtain ⟨nm, v0, v1, v2, v3, v4, v5, v6, v7, v8, v9⟩ := r
    simp only [SuR.cells] at hrow ⊢
    have HROW := Lib.hid hrow
    have h1 : ¬ c < 1 := by omega
    have h2 : ¬ 17 ≤ c := by omega
    clear hrow he h
    go_enter Tryd.func11, Tryd.ntmps11
    go_wp2_with fail
    generalize w.alloc (.cells #[.int .i64 0, .string ⟨#[]⟩, .int .i64 0, .int .i64 0, .int .i64 0, .int .i64 0, .int .i64 0, .int .i64 0, .int .i64 0, .int .i64 0, .int .i64 0, .int .i64 0] 29) = W0 at *
    refine HROW.out.mono ?_
    rintro e w1 ⟨rfl, hb⟩
    have B1 := Lib.hid (HB0.out.trans (hb.mono HB0.out.size))
    have R1 := Lib.hid ((hb.block w.heap.size HZ0.out).trans HR0.out)
    clear hb
    have rr := (setOf (setOf (setOf (setOf (setOf (setOf (setOf (setOf (setOf (setOf (setOf (setOf R1.out 0 (.int .i64 c)) 1 (.string nm)) 2 (.int .i64 v0)) 3 (.int .i64 v1)) 4 (.int .i64 v2)) 5 (.int .i64 v3)) 6 (.int .i64 v4)) 7 (.int .i64 v5)) 8 (.int .i64 v6)) 9 (.int .i64 v7)) 10 (.int .i64 v8)) 11 (.int .i64 v9))
    simp only [List.setIfInBounds_toArray, List.set_cons_zero, List.set_cons_succ] at rr
    have RR := Lib.hid rr
    clear rr
    have BB := Lib.hid (B1.out.trans (Below.setCell (Below.setCell (Below.setCell (Below.setCell (Below.setCell (Below.setCell (Below.setCell (Below.setCell (Below.setCell (Below.setCell (Below.setCell (Below.setCell (Below.refl w.heap.size w1) (p := ⟨w.heap.size, 0, none⟩) (Nat.le_refl _) (.int .i64 c)) (p := ⟨w.heap.size, 1, none⟩) (Nat.le_refl _) (.string nm)) (p := ⟨w.heap.size, 2, none⟩) (Nat.le_refl _) (.int .i64 v0)) (p := ⟨w.heap.size, 3, none⟩) (Nat.le_refl _) (.int .i64 v1)) (p := ⟨w.heap.size, 4, none⟩) (Nat.le_refl _) (.int .i64 v2)) (p := ⟨w.heap.size, 5, none⟩) (Nat.le_refl _) (.int .i64 v3)) (p := ⟨w.heap.size, 6, none⟩) (Nat.le_refl _) (.int .i64 v4)) (p := ⟨w.heap.size, 7, none⟩) (Nat.le_refl _) (.int .i64 v5)) (p := ⟨w.heap.size, 8, none⟩) (Nat.le_refl _) (.int .i64 v6)) (p := ⟨w.heap.size, 9, none⟩) (Nat.le_refl _) (.int .i64 v7)) (p := ⟨w.heap.size, 10, none⟩) (Nat.le_refl _) (.int .i64 v8)) (p := ⟨w.heap.size, 11, none⟩) (Nat.le_refl _) (.int .i64 v9)))
    have c0 := cellOf R1.out 0
    have g0 := freeOf R1.out 0
    have c1 := cellOf R1.out 1
    have g1 := freeOf R1.out 1
    have c2 := cellOf R1.out 2
    have g2 := freeOf R1.out 2
    have c3 := cellOf R1.out 3
    have g3 := freeOf R1.out 3
    have c4 := cellOf R1.out 4
    have g4 := freeOf R1.out 4
    have c5 := cellOf R1.out 5
    have g5 := freeOf R1.out 5
    have c6 := cellOf R1.out 6
    have g6 := freeOf R1.out 6
    have c7 := cellOf R1.out 7
    have g7 := freeOf R1.out 7
    have c8 := cellOf R1.out 8
    have g8 := freeOf R1.out 8
    have c9 := cellOf R1.out 9
    have g9 := freeOf R1.out 9
    have c10 := cellOf R1.out 10
    have g10 := freeOf R1.out 10
    have c11 := cellOf R1.out 11
    have g11 := freeOf R1.out 11
    go_wp2_with fail
    clear c0 g0 c1 g1 c2 g2 c3 g3 c4 g4 c5 g5 c6 g6 c7 g7 c8 g8 c9 g9 c10 g10 c11 g11
    refine bodyPost_ret (v := .tuple #[.agg #[.int .i64 c, .string nm, .int .i64 v0, .int .i64 v1, .int .i64 v2, .int .i64 v3, .int .i64 v4, .int .i64 v5, .int .i64 v6, .int .i64 v7, .int .i64 v8, .int .i64 v9], .int .i64 0]) ?hr rfl ?_
    case hr => exact results_cell_row1 (P := Tryd.prog) (fn := Tryd.f11) (p := 2) (u := 3) rfl _ _ w.heap.size 29 _ (0, 0) _ rfl RR.out Tryd.underlying29 rfl infoSu
    exact ⟨rfl, BB.out⟩
  · rw [if_neg h]
    unfold suNone
    by_cases h1 : c < 1
    · clear he h
      go_enter Tryd.func11, Tryd.ntmps11
      go_wp2_with fail
      refine bodyPost_ret (v := .tuple #[.agg #[.int .i64 0, .string ⟨#[]⟩, .int .i64 0, .int .i64 0, .int .i64 0, .int .i64 0, .int .i64 0, .int .i64 0, .int .i64 0, .int .i64 0, .int .i64 0, .int .i64 0], .int .i64 8]) ?hr rfl ?_
      case hr => exact results_cell_row1 (P := Tryd.prog) (fn := Tryd.f11) (p := 2) (u := 3) rfl _ _ w.heap.size 29 _ (0, 0) _ rfl HR0.out Tryd.underlying29 rfl infoSu
      exact ⟨rfl, HB0.out⟩
    · have h2 : 17 ≤ c := by omega
      clear he h
      go_enter Tryd.func11, Tryd.ntmps11
      go_wp2_with fail
      refine bodyPost_ret (v := .tuple #[.agg #[.int .i64 0, .string ⟨#[]⟩, .int .i64 0, .int .i64 0, .int .i64 0, .int .i64 0, .int .i64 0, .int .i64 0, .int .i64 0, .int .i64 0, .int .i64 0, .int .i64 0], .int .i64 8]) ?hr rfl ?_
      case hr => exact results_cell_row1 (P := Tryd.prog) (fn := Tryd.f11) (p := 2) (u := 3) rfl _ _ w.heap.size 29 _ (0, 0) _ rfl HR0.out Tryd.underlying29 rfl infoSu
      exact ⟨rfl, HB0.out⟩
end Go.Proofs.YtiognfhjmcbbpaaDoor

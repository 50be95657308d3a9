import Derived.Test.YtiognfhjmcbbpaaDoorCSus
namespace Go.Proofs.YtiognfhjmcbbpaaDoor
open Go.RowKit
set_option linter.unusedSimpArgs false
set_option linter.unusedVariables false

/-! ## awake of the law of stage 2 -/

theorem own_form {w : World} {base : Nat} {e : TypeId} {size n : Nat} {v : Value} {xs : List Value} (h : w.ownsRow base e size v n xs) (hs : xs.length = n * size) (hz : 0 < size) : ∃ a m, v = .slice a n m := by
  rcases h.2 with ⟨rfl, h0⟩ | ⟨g, cap, _, rfl, _⟩
  · rw [h0]; exact ⟨_, _, rfl⟩
  · exact ⟨_, _, rfl⟩
set_option maxRecDepth 100000 in
set_option maxHeartbeats 4000000 in
theorem awake_any (w : World) (he : Env w) (hm : MaxAt w) (hs : SuAt w) :
    Calls Tryd.prog 8 #[] w fun e w' => e = .returned (.bool true) ∧ Below w.heap.size w w' := by
  have HE := Lib.hid he
  have HM := Lib.hid hm
  have HS := Lib.hid hs
  clear he hm hs
  have b0 : Below w.heap.size w (w.alloc (.cells #[.int .i64 5, .int .i64 2048] 23)) := (Below.refl _ _).alloc (Nat.le_refl _) _
  have r0 : (w.alloc (.cells #[.int .i64 5, .int .i64 2048] 23)).heap[w.heap.size]? = some (.cells #[.int .i64 5, .int .i64 2048] 23 (0, 0)) := MapKept.heap_alloc w _ |>.1
  have z0 : w.heap.size < (w.alloc (.cells #[.int .i64 5, .int .i64 2048] 23)).heap.size := by simp
  have HB0 := Lib.hid b0
  have HR0 := Lib.hid r0
  have HZ0 := Lib.hid z0
  clear b0 r0 z0
  go_enter Tryd.func8, Tryd.ntmps8
  go_wp2_with fail
  generalize w.alloc (.cells #[.int .i64 5, .int .i64 2048] 23) = W0 at *
  refine (parse_ex W0 (HE.out.below HB0.out) (HM.out.below HB0.out)).mono ?_
  rintro e w1 ⟨rfl, h1⟩
  have B1 := Lib.hid (HB0.out.trans (h1.mono HB0.out.size))
  have R1 := Lib.hid ((h1.block w.heap.size HZ0.out).trans HR0.out)
  have Z1 := Lib.hid (show w.heap.size < w1.heap.size by have := h1.size; have := HZ0.out; omega)
  have b2 : Below w1.heap.size w1 (w1.alloc (.cells #[.int .i64 5, .int .i64 2048] 23)) := (Below.refl _ _).alloc (Nat.le_refl _) _
  have R2' := Lib.hid (MapKept.heap_alloc w1 (.cells #[.int .i64 5, .int .i64 2048] 23) |>.1)
  have Z2 := Lib.hid (show w1.heap.size < (w1.alloc (.cells #[.int .i64 5, .int .i64 2048] 23)).heap.size by simp)
  have B2 := Lib.hid (B1.out.trans (b2.mono B1.out.size))
  have R2 := Lib.hid ((b2.block w.heap.size Z1.out).trans R1.out)
  clear h1 b2
  have e0 := cellOf R2.out 0
  have e1 := cellOf R2.out 1
  have HT := Lib.hid (fun W (hW : Env W) => by have h := text_any 5 2048 W hW (by decide); rw [text_ex] at h; exact h)
  have HG := Lib.hid (fun W (hW : AlgAt W) => by have h := strength_any 5 2048 W hW; rw [str_ex] at h; exact h)
  go_wp2_with fail
  clear e0 e1
  generalize w1.alloc (.cells #[.int .i64 5, .int .i64 2048] 23) = W2 at *
  refine (HT.out W2 (HE.out.below B2.out)).mono ?_
  rintro e w3 ⟨rfl, h3⟩
  have B3 := Lib.hid (B2.out.trans (h3.mono B2.out.size))
  have R3 := Lib.hid ((h3.block w.heap.size (by have := Z1.out; have := Z2.out; omega)).trans R2.out)
  have Z3 := Lib.hid (show w.heap.size < w3.heap.size by have := h3.size; have := Z1.out; have := Z2.out; omega)
  clear h3
  have e0 := cellOf R3.out 0
  have e1 := cellOf R3.out 1
  have hx : (exS.toList == [114, 115, 97, 45, 50, 48, 52, 56]) = true := by decide +kernel
  go_wp2_with fail
  clear hx
  clear e0 e1
  refine (HG.out w3 (HE.out.below B3.out).alg).mono ?_
  rintro e w4 ⟨rfl, h4⟩
  have B4 := Lib.hid (B3.out.trans (h4.mono B3.out.size))
  clear h4
  go_wp2_with fail
  refine (suites_any w4 (HS.out.below B4.out)).mono ?_
  rintro e w5 ⟨⟨v, rfl, ho⟩, h5⟩
  have B5 := Lib.hid (B4.out.trans (h5.mono B4.out.size))
  obtain ⟨a, m, rfl⟩ := own_form ho ho.1 (by decide)
  clear ho h5
  go_wp2_with fail
  go_ret
  exact ⟨rfl, B5.out⟩
end Go.Proofs.YtiognfhjmcbbpaaDoor

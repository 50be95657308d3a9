import Derived.Test.YtiognfhjmcbbpaaDoorCGrP
import Derived.Deep.RegionHeld3
namespace Go.Proofs.YtiognfhjmcbbpaaDoor
open Go.RowKit
set_option linter.unusedSimpArgs false
set_option linter.unusedVariables false

/-! ## CatalogGrows -/

set_option maxRecDepth 100000 in
set_option maxHeartbeats 4000000 in
theorem growsLaw (g a b : Int) (w : World) (hg : 0 ≤ g ∧ g ≤ 255) (he : Env w) (hm : MaxAt w) (hs : SuAt w) :
    Calls Tryd.prog 6 #[.int .u8 g, .int .i64 a, .int .i64 b] w fun e w' => e = .returned (.bool true) ∧ Below w.heap.size w w' := by
  have HE := Lib.hid he
  have HM := Lib.hid hm
  have HS := Lib.hid hs
  have HA := Lib.hid (fun W => mod_any a 16385 W (by decide) (by decide))
  have HB := Lib.hid (fun W => mod_any b 16385 W (by decide) (by decide))
  have ra := Lib.hid (show 0 ≤ a % 16385 ∧ a % 16385 < 16385 from ⟨Int.emod_nonneg _ (by decide), Int.emod_lt_of_pos _ (by decide)⟩)
  have rb := Lib.hid (show 0 ≤ b % 16385 ∧ b % 16385 < 16385 from ⟨Int.emod_nonneg _ (by decide), Int.emod_lt_of_pos _ (by decide)⟩)
  generalize a % 16385 = p at *
  generalize b % 16385 = q at *
  obtain ⟨hg1, hg2⟩ := hg
  clear he hm hs
  go_enter Tryd.func6, Tryd.ntmps6
  go_wp2_with fail
  refine (HA.out _).mono ?_
  rintro e w1 ⟨rfl, rfl⟩
  go_wp2_with fail
  refine (HB.out _).mono ?_
  rintro e w1 ⟨rfl, rfl⟩
  go_wp2_with fail
  have hx : 1 ≤ 1 + g % 22 ∧ 1 + g % 22 ≤ 22 := by omega
  have hlh : min p q ≤ max p q := by omega
  have hl0 : 0 ≤ min p q ∧ min p q ≤ 16384 := by have := ra.out; have := rb.out; omega
  have hh0 : 0 ≤ max p q ∧ max p q ≤ 16384 := by have := ra.out; have := rb.out; omega
  generalize 1 + g % 22 = x at *
  generalize min p q = lo at *
  generalize max p q = hi at *
  have R1 := (Below.alloc1' (w.alloc (.cells #[.int .i64 x, .int .i64 lo] 23)) (.cells #[.int .i64 x, .int .i64 hi] 23)).block w.heap.size (by simp)
  have R1 := Lib.hid (R1.trans (MapKept.heap_alloc w (.cells #[.int .i64 x, .int .i64 lo] 23) |>.1))
  have r2 := MapKept.heap_alloc (w.alloc (.cells #[.int .i64 x, .int .i64 lo] 23)) (.cells #[.int .i64 x, .int .i64 hi] 23) |>.1
  rw [show (w.alloc (.cells #[.int .i64 x, .int .i64 lo] 23)).heap.size = w.heap.size + 1 by simp] at r2
  have R2 := Lib.hid r2
  have Z0 := Lib.hid (show w.heap.size + 1 < ((w.alloc (.cells #[.int .i64 x, .int .i64 lo] 23)).alloc (.cells #[.int .i64 x, .int .i64 hi] 23)).heap.size by simp)
  have B0 := Lib.hid ((Below.alloc1' w (.cells #[.int .i64 x, .int .i64 lo] 23)).trans ((Below.alloc1' (w.alloc (.cells #[.int .i64 x, .int .i64 lo] 23)) (.cells #[.int .i64 x, .int .i64 hi] 23)).mono (by simp)))
  clear r2
  generalize (w.alloc (.cells #[.int .i64 x, .int .i64 lo] 23)).alloc (.cells #[.int .i64 x, .int .i64 hi] 23) = W0 at *
  have HX := Lib.hid hx
  have HLH := Lib.hid hlh
  have HL0 := Lib.hid hl0
  have HH0 := Lib.hid hh0
  clear hx hlh hl0 hh0 hg1 hg2 HA HB ra rb
  have B0 := Lib.hid (show Below w.heap.size w W0.drew from B0.out.drew)
  have R1 := Lib.hid (show W0.drew.heap[w.heap.size]? = _ from R1.out)
  have R2 := Lib.hid (show W0.drew.heap[w.heap.size + 1]? = _ from R2.out)
  have Z0 := Lib.hid (show w.heap.size + 1 < W0.drew.heap.size from Z0.out)
  have BB := Lib.hid (Below.refl W0.drew.heap.size W0.drew)
  have KR := Lib.hid (fun (W : World) (hW : Below W0.drew.heap.size W0.drew W) => (⟨(hW.block w.heap.size (by have := Z0.out; omega)).trans R1.out, (hW.block (w.heap.size + 1) Z0.out).trans R2.out⟩ : W.heap[w.heap.size]? = _ ∧ W.heap[w.heap.size + 1]? = _))
  have KP := Lib.hid (fun (W : World) (hW : Below W0.drew.heap.size W0.drew W) => (⟨cellOf (KR.out W hW).1 0, cellOf (KR.out W hW).1 1, cellOf (KR.out W hW).2 0, cellOf (KR.out W hW).2 1⟩ : W.cell? ⟨w.heap.size, 0, none⟩ = some (.int .i64 x) ∧ W.cell? ⟨w.heap.size, 1, none⟩ = some (.int .i64 lo) ∧ W.cell? ⟨w.heap.size + 1, 0, none⟩ = some (.int .i64 x) ∧ W.cell? ⟨w.heap.size + 1, 1, none⟩ = some (.int .i64 hi)))
  have N1 := Lib.hid (fun (W : World) (hW : Below W0.drew.heap.size W0.drew W) => strength_any x lo W (HE.out.below (B0.out.trans (hW.mono B0.out.size))).alg)
  have N2 := Lib.hid (fun (W : World) (hW : Below W0.drew.heap.size W0.drew W) => strength_any x hi W (HE.out.below (B0.out.trans (hW.mono B0.out.size))).alg)
  have HV := Lib.hid (fun (W : World) (hW : Below W0.drew.heap.size W0.drew W) => valid_any x lo W (HE.out.below (B0.out.trans (hW.mono B0.out.size))).alg)
  have HT := Lib.hid (fun (W : World) (hW : Below W0.drew.heap.size W0.drew W) => text_any x lo W (HE.out.below (B0.out.trans (hW.mono B0.out.size))) (by have := HL0.out; omega))
  have HAW := Lib.hid (fun (W : World) (hW : Below W0.drew.heap.size W0.drew W) => awake_any W (HE.out.below (B0.out.trans (hW.mono B0.out.size))) (HM.out.below (B0.out.trans (hW.mono B0.out.size))) (HS.out.below (B0.out.trans (hW.mono B0.out.size))))
  have HTE := Lib.hid (text_empty x lo HX.out)
  have hsr := str_range x lo HX.out
  have HC := Lib.hid (show (strF x lo = 0 ∧ decide (0 < strF x lo) = false) ∨ (¬ strF x lo = 0 ∧ 0 < strF x lo ∧ decide (0 < strF x lo) = true ∧ strF x hi = 0) ∨ (¬ strF x lo = 0 ∧ 0 < strF x lo ∧ decide (0 < strF x lo) = true ∧ ¬ strF x hi = 0 ∧ strF x lo ≤ strF x hi) by
    by_cases h0 : strF x lo = 0
    · exact .inl ⟨h0, decide_eq_false (by omega)⟩
    · have h1 : 0 < strF x lo := by omega
      by_cases h2 : strF x hi = 0
      · exact .inr (.inl ⟨h0, h1, decide_eq_true h1, h2⟩)
      · refine .inr (.inr ⟨h0, h1, decide_eq_true h1, h2, ?_⟩)
        rcases str_grows x lo hi HX.out HLH.out with h | h | h
        · exact absurd h h0
        · exact absurd h h2
        · exact h)
  have HSR := Lib.hid (show 0 ≤ strF x lo ∧ strF x lo ≤ 512 from str_range5 x lo HX.out)
  clear hsr
  generalize decide (0 < strF x lo) = vv at *
  generalize textF x lo = tx at *
  generalize strF x lo = sl at *
  generalize strF x hi = sh at *
  go_region_held3 (fun W => W.cell? ⟨w.heap.size, 0, none⟩ = some (.int .i64 x) ∧ W.cell? ⟨w.heap.size, 1, none⟩ = some (.int .i64 lo) ∧ W.cell? ⟨w.heap.size + 1, 0, none⟩ = some (.int .i64 x) ∧ W.cell? ⟨w.heap.size + 1, 1, none⟩ = some (.int .i64 hi)) (first | exact KP.out _ BB.out) (first | (go_at_call 19; (first | (with_reducible refine (N1.out _ BB.out).mono ?_) | (with_reducible refine (N2.out _ BB.out).mono ?_)); rintro e w1 ⟨rfl, hb⟩; have BB := Lib.hid (BB.out.trans (hb.mono BB.out.size)); clear hb))
  obtain ⟨s1, s2⟩ := HSR.out
  clear N1 N2
  have hc := HC.out
  clear HC
  rcases hc with ⟨rfl, rfl⟩ | ⟨k0, k1, rfl, rfl⟩ | ⟨k0, k1, rfl, k2, k3⟩
  all_goals
    obtain ⟨c0, c1, c2, c3⟩ := KP.out _ BB.out
    go_wp2_with fail
    clear c0 c1 c2 c3
    refine (HV.out _ BB.out).mono ?_
    rintro e w2 ⟨rfl, hb⟩
    have BB := Lib.hid (BB.out.trans (hb.mono BB.out.size))
    clear hb
    obtain ⟨c0, c1, c2, c3⟩ := KP.out _ BB.out
    go_wp2_with fail
    clear c0 c1 c2 c3
    refine (HT.out _ BB.out).mono ?_
    rintro e w3 ⟨rfl, hb⟩
    have BB := Lib.hid (BB.out.trans (hb.mono BB.out.size))
    clear hb
    have hte := HTE.out
    simp only [Bool.not_true, Bool.not_false] at hte
    go_wp2_with fail
    clear hte
    refine (HAW.out _ BB.out).mono ?_
    rintro e w4 ⟨rfl, hb⟩
    have BB := Lib.hid (BB.out.trans (hb.mono BB.out.size))
    clear hb
    go_wp2_with fail
    go_ret
    exact ⟨rfl, B0.out.trans (BB.out.mono B0.out.size)⟩
end Go.Proofs.YtiognfhjmcbbpaaDoor

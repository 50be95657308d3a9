import Derived.Test.YtiognfhjmcbbpaaDoorCLay
namespace Go.Proofs.YtiognfhjmcbbpaaDoor
open Go.RowKit
set_option linter.unusedSimpArgs false
set_option linter.unusedVariables false

/-! ## Parse of a text without a dash -/

theorem ErrAt.below {w w' : World} (h : ErrAt w) (hb : Below w.heap.size w w') : ErrAt w' := by
  obtain ⟨ev, h1, h2⟩ := h
  exact ⟨ev, (hb.cell (p := ⟨_, 0, none⟩) (Lib.lt_of_cell h1)).trans h1, h2⟩
set_option maxRecDepth 100000 in
set_option maxHeartbeats 2000000 in
theorem parse_none (s : ByteArray) (k : Nat) (w : World) (he : Env w) (hm : MaxAt w) (hr : ErrAt w) (hs : s.size < 4294967281) (hc : Lib.cut s.data.toList [45] = (s.data.toList, [], false))
    (hf : findFrom s 0 = k) (hv : 0 < strF k 0) (ht : textF k 0 = s) :
    Calls Tryd.prog 9 #[.string s] w fun e w' => e = .returned (.tuple #[.agg #[.int .i64 k, .int .i64 0], .int .i64 0]) ∧ Below w.heap.size w w' := by
  have HR := Lib.hid (fun (W : World) (hW : Below w.heap.size w W) => hr.below hW)
  have HE := Lib.hid (fun (W : World) (hW : Below w.heap.size w W) => he.below hW)
  have b0 : Below w.heap.size w (w.alloc (.cells #[.int .i64 0, .int .i64 0] 23)) := (Below.refl _ _).alloc (Nat.le_refl _) _
  have r0 : (w.alloc (.cells #[.int .i64 0, .int .i64 0] 23)).heap[w.heap.size]? = some (.cells #[.int .i64 0, .int .i64 0] 23 (0, 0)) := MapKept.heap_alloc w _ |>.1
  have z0 : (w.alloc (.cells #[.int .i64 0, .int .i64 0] 23)).heap.size = w.heap.size + 1 := by simp
  have HCUT := Lib.hid (cut_any s ⟨#[45]⟩ _ hs (hm.below b0) s ⟨#[]⟩ false hc)
  have HB0 := Lib.hid b0
  have HR0 := Lib.hid r0
  have HZ0 := Lib.hid z0
  have HF := Lib.hid (fun W (hW : AlgAt W) => by have h := find_any s W hW; rw [hf] at h; exact h)
  have HA := Lib.hid (fun W hW => atoi_none ⟨#[]⟩ (by decide) (by decide) W hW)
  have HV := Lib.hid (fun W (hW : AlgAt W) => by have h := valid_any k 0 W hW; rw [decide_eq_true hv] at h; exact h)
  have HT := Lib.hid (fun W (hW : Env W) => by have h := text_any k 0 W hW (by decide); rw [ht] at h; exact h)
  clear he hm hr hs hc hf hv ht b0 r0 z0
  go_enter Tryd.func9, Tryd.ntmps9
  go_wp2_with fail
  generalize w.alloc (.cells #[.int .i64 0, .int .i64 0] 23) = W0 at *
  refine HCUT.out.mono ?_
  rintro e w1 ⟨rfl, h1⟩
  have B1 := Lib.hid (HB0.out.trans (h1.mono HB0.out.size))
  have R1 := Lib.hid ((h1.block w.heap.size (by have := HZ0.out; omega)).trans HR0.out)
  have Z1 := Lib.hid (show w.heap.size < w1.heap.size by have := h1.size; have := HZ0.out; omega)
  clear h1
  go_wp2_with fail
  refine (HF.out w1 (HE.out _ B1.out).alg).mono ?_
  rintro e w2 ⟨rfl, h2⟩
  have B2 := Lib.hid (B1.out.trans (h2.mono B1.out.size))
  have R2 := Lib.hid ((h2.block w.heap.size Z1.out).trans R1.out)
  have Z2 := Lib.hid (show w.heap.size < w2.heap.size by have := h2.size; have := Z1.out; omega)
  clear h2
  go_wp2_with fail
  have b3 : Below w2.heap.size w2 (w2.alloc (.cells #[.int .i64 k, .int .i64 0] 23)) := (Below.refl _ _).alloc (Nat.le_refl _) _
  have u3 : (w2.alloc (.cells #[.int .i64 k, .int .i64 0] 23)).heap[w2.heap.size]? = some (.cells #[.int .i64 k, .int .i64 0] 23 (0, 0)) := MapKept.heap_alloc w2 _ |>.1
  have HU3 := Lib.hid u3
  have B3 := Lib.hid (B2.out.trans (b3.mono B2.out.size))
  have R3 := Lib.hid ((b3.block w.heap.size Z2.out).trans R2.out)
  have Z3 := Lib.hid (show w2.heap.size < (w2.alloc (.cells #[.int .i64 k, .int .i64 0] 23)).heap.size by simp)
  clear b3 u3
  generalize w2.alloc (.cells #[.int .i64 k, .int .i64 0] 23) = W3 at *
  refine (HA.out W3 (HR.out _ B3.out)).mono ?_
  rintro e w4 ⟨t4, p4, rfl, h4⟩
  have U5 := Lib.hid ((h4.block w2.heap.size Z3.out).trans HU3.out)
  have Z5 := Lib.hid (show w2.heap.size < w4.heap.size by have := h4.size; have := Z3.out; omega)
  have B5 := Lib.hid (B3.out.trans (h4.mono B3.out.size))
  have R5 := Lib.hid ((h4.block w.heap.size (by have := Z3.out; have := Z2.out; omega)).trans R3.out)
  have c0 := cellOf U5.out 0
  have c1 := cellOf U5.out 1
  have n1 : w.heap.size ≠ w2.heap.size := by have := Z2.out; omega
  have n2 : w.heap.size ≤ w2.heap.size := by have := Z2.out; omega
  have N12 := Lib.hid (And.intro n1 n2)
  clear h4 n1 n2
  go_wp2_with fail
  clear c0 c1
  refine (HV.out w4 (HE.out _ B5.out).alg).mono ?_
  rintro e w6 ⟨rfl, h6⟩
  have B6 := Lib.hid (B5.out.trans (h6.mono B5.out.size))
  have u6 := (h6.block w2.heap.size Z5.out).trans U5.out
  have R6 := Lib.hid ((h6.block w.heap.size (by have := Z5.out; have := N12.out; omega)).trans R5.out)
  have Z6 := Lib.hid (show w2.heap.size < w6.heap.size by have := h6.size; have := Z5.out; omega)
  have c0 := cellOf u6 0
  have c1 := cellOf u6 1
  have U6 := Lib.hid u6
  clear h6 u6
  go_wp2_with fail
  refine (HT.out w6 (HE.out _ B6.out)).mono ?_
  rintro e w7 ⟨rfl, h7⟩
  have B7 := Lib.hid (B6.out.trans (h7.mono B6.out.size))
  have u7 := (h7.block w2.heap.size Z6.out).trans U6.out
  have r7 := (h7.block w.heap.size (by have := Z6.out; have := N12.out; omega)).trans R6.out
  clear c0 c1
  have c0 := cellOf u7 0
  have c1 := cellOf u7 1
  have e0 := cellOf r7 0
  have e1 := cellOf r7 1
  have g0 := freeOf r7 0
  have g1 := freeOf r7 1
  have RR := Lib.hid (setOf (setOf r7 0 (.int .i64 k)) 1 (.int .i64 0))
  have BB := Lib.hid (B7.out.trans (((Below.refl w.heap.size w7).setCell (p := ⟨w.heap.size, 0, none⟩) (Nat.le_refl _) (.int .i64 k)).setCell (p := ⟨w.heap.size, 1, none⟩) (Nat.le_refl _) (.int .i64 0)))
  have n1 := N12.out.1
  clear h7 u7 r7
  go_wp2_with fail
  refine bodyPost_ret (v := .tuple #[.agg #[.int .i64 k, .int .i64 0], .int .i64 0]) ?hr rfl ?_
  case hr => exact results_cell_row1 (P := Tryd.prog) (fn := Tryd.f9) (p := 2) (u := 3) rfl _ _ w.heap.size 23 _ (0, 0) _ rfl RR.out Tryd.underlying23 rfl infoUse
  exact ⟨rfl, BB.out⟩

end Go.Proofs.YtiognfhjmcbbpaaDoor

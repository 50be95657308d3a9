import Derived.Test.YtpjcaanlagibpaaThen
namespace Go.Proofs.Ytpjcaanlagibpaa
open Go.RowKit
set_option linter.unusedSimpArgs false
set_option linter.unusedVariables false

/-! ## The same for a ledger of nothing -/

set_option maxRecDepth 100000 in
theorem search_none (f : Value) (w : World) (hf : ∃ i p, f = .func (.func i) #[] p) :
    Calls Try.prog 73 #[.int .i64 0, f] w fun e w' => e = .returned (.int .i64 0) ∧ Below w.heap.size w w' := by
  obtain ⟨i, p, rfl⟩ := hf
  go_enter Try.func73, Try.ntmps73
  go_wp2_with fail
  refine wp_loop_rounds 1 ?_
  rw [rounds_succ]
  go_wp2_with fail
  go_ret
  exact ⟨rfl, Below.refl _ _⟩

set_option maxRecDepth 100000 in
theorem until_none (day : Int) (w : World) :
    Calls Try.prog 63 #[.agg #[.slice none 0 0], .int .i64 day] w fun e w' => e = .returned (.slice none 0 0) ∧ Below w.heap.size w w' := by
  have hb2 : Below w.heap.size w ((w.alloc (.cells #[.slice none 0 0] 25)).alloc (.cells #[.int .i64 day] 3)) := ((Below.refl _ _).alloc (Nat.le_refl _) _).alloc (by simp) _
  have hc2 : World.cell? ((w.alloc (.cells #[.slice none 0 0] 25)).alloc (.cells #[.int .i64 day] 3)) ⟨w.heap.size, 0, none⟩ = some (.slice none 0 0) := by
    rw [World.cell?_alloc_past _ _ _ (by simp)]; exact World.cell?_alloc_at _ _ _ _ (by simp)
  have hz2 : w.heap.size < (World.heap ((w.alloc (.cells #[.slice none 0 0] 25)).alloc (.cells #[.int .i64 day] 3))).size := by simp; omega
  have HB := Lib.hid hb2
  have HC := Lib.hid hc2
  have HZ := Lib.hid hz2
  clear hb2 hc2 hz2
  go_enter Try.func63, Try.ntmps63
  go_wp2_with fail
  generalize ((w.alloc (.cells #[.slice none 0 0] 25)).alloc (.cells #[.int .i64 day] 3)) = W2 at *
  refine (search_none _ W2 ⟨_, _, rfl⟩).mono ?_
  rintro e w3 ⟨rfl, hb3⟩
  have hc3 := (hb3.cell (p := ⟨w.heap.size, 0, none⟩) HZ.out).trans HC.out
  have HF := Lib.hid (HB.out.trans (hb3.mono HB.out.size))
  clear hb3 HB HC HZ
  go_wp2_with fail
  go_ret
  exact ⟨rfl, HF.out⟩

set_option maxRecDepth 100000 in
theorem known_none (day : Int) (w : World) :
    Calls Try.prog 30 #[.agg #[.slice none 0 0], .int .i64 day] w fun e w' => e = .returned (.int .i64 0) ∧ Below w.heap.size w w' := by
  have HU := Lib.hid (fun w1 => until_none day w1)
  go_enter Try.func30, Try.ntmps30
  go_wp2_with fail
  refine (HU.out _).mono ?_
  rintro e w2 ⟨rfl, hb2⟩
  have HF := Lib.hid (((Below.refl w.heap.size w).alloc (Nat.le_refl _) (.cells #[.slice none 0 0] 25)).trans (hb2.mono (by simp)))
  clear hb2 HU
  go_wp2_with fail
  refine wp_loop_rounds 1 ?_
  rw [rounds_succ]
  go_wp2_with fail
  go_ret
  exact ⟨rfl, HF.out⟩
end Go.Proofs.Ytpjcaanlagibpaa

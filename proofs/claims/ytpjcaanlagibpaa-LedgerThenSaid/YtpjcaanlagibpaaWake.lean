import Derived.Test.YtpjcaanlagibpaaLat
import Derived.Test.YtpjcaanlagibpaaAddN
namespace Go.Proofs.Ytpjcaanlagibpaa
open Go.RowKit
set_option linter.unusedSimpArgs false
set_option linter.unusedVariables false

theorem slice_nil (w : World) : SliceDecs w (.slice none 0 0) [] := .inl ⟨rfl, rfl⟩

set_option maxRecDepth 100000 in
set_option maxHeartbeats 2000000 in
theorem wake_any (w : World) : Calls Try.prog 14 #[] w fun e w' => e = .returned (.bool true) ∧ Below w.heap.size w w' := by
  have h1 : ∀ w1, Calls Try.prog 19 #[.agg #[.slice none 0 0], .agg #[.int .i64 0, .int .i64 0, .int .i64 0, .int .i64 0, .int .i64 0]] w1 fun e w' => AddOut [] 57 w1 e w' := fun w1 => by
    have h := add_any (.slice none 0 0) [] ⟨0, 0, 0, 0, 0⟩ w1 (slice_nil w1) (by decide) OKs.nil
    have e1 : addOne [] ⟨0, 0, 0, 0, 0⟩ = [] := by decide
    have e2 : followsE [] ⟨0, 0, 0, 0, 0⟩ = 57 := by decide
    rw [e1, e2] at h
    exact h
  have h2 : ∀ w1, Calls Try.prog 19 #[.agg #[.slice none 0 0], .agg #[.int .i64 3, .int .i64 0, .int .i64 4, .int .i64 0, .int .i64 1]] w1 fun e w' => AddOut [⟨3, 0, 4, 0, 1⟩] 0 w1 e w' := fun w1 => by
    have h := add_any (.slice none 0 0) [] ⟨3, 0, 4, 0, 1⟩ w1 (slice_nil w1) (by decide) OKs.nil
    have e1 : addOne [] ⟨3, 0, 4, 0, 1⟩ = [⟨3, 0, 4, 0, 1⟩] := by decide
    have e2 : followsE [] ⟨3, 0, 4, 0, 1⟩ = 0 := by decide
    rw [e1, e2] at h
    exact h
  have h3 : ∀ v w1, SliceDecs w1 v [⟨3, 0, 4, 0, 1⟩] → Calls Try.prog 28 #[.agg #[v], .int .i64 4, .int .i64 0, .int .i64 3] w1 fun e w' => e = .returned (.tuple #[.agg #[.int .i64 3, .int .i64 0, .int .i64 4, .int .i64 0, .int .i64 1], .bool true]) ∧ Below w1.heap.size w1 w' := fun v w1 hv => by
    have hok : OKs [⟨3, 0, 4, 0, 1⟩] := OKs.snoc (ds := []) OKs.nil (by decide)
    refine (latest_any v _ 4 0 3 w1 hv hok (by decide)).mono ?_
    rintro e w' ⟨h4, h5⟩
    have e1 : latestOf (upTo [⟨3, 0, 4, 0, 1⟩] 3) 4 0 = some ⟨3, 0, 4, 0, 1⟩ := by decide
    rw [e1] at h4
    exact ⟨h4, h5⟩
  have H1 := Lib.hid h1
  have H2 := Lib.hid h2
  have H3 := Lib.hid h3
  clear h1 h2 h3
  go_enter Try.func14, Try.ntmps14
  go_wp2_with fail
  refine (H1.out _).mono ?_
  rintro e w1 ⟨v1, rfl, hO1, hb1⟩
  obtain ⟨a1, n1, m1, rfl⟩ := hO1.slice_val
  have B1 := Lib.hid (hb1.alloc hb1.size (.cells #[.slice a1 n1 m1] 25))
  clear hb1 hO1
  go_wp2_with fail
  generalize w1.alloc (.cells #[.slice a1 n1 m1] 25) = w2 at *
  refine (H2.out _).mono ?_
  rintro e w3 ⟨v3, rfl, hO3, hb3⟩
  have hs3 := hO3.slice
  obtain ⟨a3, n3, m3, rfl⟩ := hO3.slice_val
  have hb4 : Below w.heap.size w (w3.alloc (.cells #[.slice a3 n3 m3] 25)) := by
    have := B1.out.trans (hb3.mono B1.out.size)
    exact this.alloc this.size _
  have B4 := Lib.hid hb4
  have S4 := Lib.hid (hs3.below ((Below.refl _ _).alloc (Nat.le_refl _) (.cells #[.slice a3 n3 m3] 25)))
  clear hb3 hO3 hs3 hb4
  go_wp2_with fail
  refine (H3.out _ _ S4.out).mono ?_
  rintro e w5 ⟨rfl, hb5⟩
  have B5 := Lib.hid (B4.out.trans (hb5.mono B4.out.size))
  clear hb5
  go_wp2_with fail
  go_ret
  exact ⟨rfl, B5.out.alloc B5.out.size _⟩
end Go.Proofs.Ytpjcaanlagibpaa

import Derived.Test.YtpjcaanlagibpaaReads
import Derived.Test.YtpjcaanlagibpaaWrit
namespace Go.Proofs.Ytpjcaanlagibpaa
open Go.RowKit
set_option linter.unusedSimpArgs false
set_option linter.unusedVariables false

/-! ## The reference's answers: numbers, decisions that are none -/

set_option maxRecDepth 100000 in
set_option maxHeartbeats 4000000 in
theorem refvalue_any (s : ByteArray) (w : World) (hs : s.size ≤ 4) :
    Calls Try.prog 69 #[.string s] w fun e w' => e = .returned (.int .i64 (beVal s.data.toList)) ∧ w' = w := by
  have hsi : (s.size : Int) ≤ 4 := by omega
  have hll : s.data.toList.length = s.size := Array.length_toList
  go_enter Try.func69, Try.ntmps69
  go_wp2
  go_loop [3, 4] (fun h i => ∃ k : Nat, k ≤ s.size ∧ i = .int .i64 k ∧ h = .int .i64 (beVal (s.data.toList.take k))) (fun _ i => s.size - (intOf i).toNat)
  case atStart => exact ⟨0, Nat.zero_le _, rfl, rfl⟩
  case round =>
    obtain ⟨k, hk, rfl, rfl⟩ := hrel
    by_cases hlt : k < s.size
    · have hb := beVal_lt (s.data.toList.take k)
      have hbb : beVal (s.data.toList.take k) < 4294967296 := Nat.lt_of_lt_of_le hb (by
        have : (s.data.toList.take k).length ≤ 4 := by rw [List.length_take, hll]; omega
        exact Nat.le_trans (Nat.pow_le_pow_right (by omega) this) (by decide))
      clear hb
      have E := Lib.hid (i64_or_byte (beVal (s.data.toList.take k)) s[k] hbb)
      have T := Lib.hid (show beVal (s.data.toList.take (k + 1)) = beVal (s.data.toList.take k) * 256 + s[k].toNat from by rw [take_snoc s k hlt, beVal_snoc])
      clear hll
      go_wp2
      go_round
      case rel => exact ⟨k + 1, by omega, by go_num, by rw [E.out, T.out]⟩
      case measure => simp [intOf]; omega
    · have E := Lib.hid (List.take_of_length_le (l := s.data.toList) (i := k) (by omega))
      clear hll
      go_wp2
      go_ret
      exact ⟨congrArg (fun x => Ending.returned (.int .i64 (beVal x : Nat))) E.out, rfl⟩

set_option maxRecDepth 100000 in
set_option maxHeartbeats 4000000 in
theorem refvalid_no (d : Dec) (w : World) (h : d.ok = false) :
    Calls Try.prog 60 #[d.val] w fun e w' => e = .returned (.bool false) ∧ Below w.heap.size w w' := by
  have hn : ¬ ((0 ≤ d.day ∧ d.day ≤ 40000) ∧ (0 ≤ d.known ∧ d.known ≤ 400) ∧ (1 ≤ d.kind ∧ d.kind ≤ 5) ∧ (0 ≤ d.subject ∧ d.subject ≤ 40) ∧ (0 ≤ d.value ∧ d.value ≤ 1)) := by rw [← ok_iff, h]; simp
  clear h
  obtain ⟨a, k, c, s, x⟩ := d
  simp only at hn
  unfold Dec.val
  go_enter Try.func60, Try.ntmps60
  go_wp2
  all_goals
    go_ret
    refine ⟨?_, (Below.refl _ _).alloc (Nat.le_refl _) _⟩
    first | rfl | (have e : (x == 0 || x == 1) = false := by simp; omega
                   rw [e]
                   rfl)

theorem refvalid_any (d : Dec) (w : World) :
    Calls Try.prog 60 #[d.val] w fun e w' => e = .returned (.bool d.ok) ∧ Below w.heap.size w w' := by
  by_cases h : d.ok = true
  · rw [h]; exact refvalid_yes d w h
  · have h2 : d.ok = false := by simpa using h
    rw [h2]; exact refvalid_no d w h2

set_option maxRecDepth 100000 in
theorem refencode_bad (d : Dec) (w : World) (h : d.ok = false) :
    Calls Try.prog 41 #[d.val] w fun e w' => e = .returned (.tuple #[.string ByteArray.empty, .int .i64 57]) ∧ Below w.heap.size w w' := by
  have HV := Lib.hid (fun w1 => refvalid_no d w1 h)
  clear h
  unfold Dec.val at *
  go_enter Try.func41, Try.ntmps41
  go_wp2_with (go_at_call 60; refine (HV.out _).mono ?_; rintro e w1 ⟨rfl, hb1⟩)
  go_ret2
  exact ⟨rfl, ((Below.refl _ _).alloc (Nat.le_refl _) _).trans (hb1.mono (by simp))⟩

set_option maxRecDepth 100000 in
theorem refappend_bad (s : ByteArray) (d : Dec) (w : World) (h : d.ok = false) :
    Calls Try.prog 43 #[.string s, d.val] w fun e w' => e = .returned (.tuple #[.string s, .int .i64 57]) ∧ Below w.heap.size w w' := by
  have HV := Lib.hid (fun w1 => refencode_bad d w1 h)
  clear h
  unfold Dec.val at *
  go_enter Try.func43, Try.ntmps43
  go_wp2_with (go_at_call 41; refine (HV.out _).mono ?_; rintro e w1 ⟨rfl, hb1⟩)
  go_ret2
  exact ⟨rfl, ((Below.refl _ _).alloc (Nat.le_refl _) _).trans (hb1.mono (by simp))⟩

set_option maxRecDepth 100000 in
theorem jappend_bad (s : ByteArray) (d : Dec) (w : World) (h : d.ok = false) :
    Calls Try.prog 42 #[.string s, d.val] w fun e w' => e = .returned (.tuple #[.string s, .int .i64 57]) ∧ Below w.heap.size w w' := by
  have HV := Lib.hid (fun w1 => encode_bad d w1 h)
  clear h
  unfold Dec.val at *
  go_enter Try.func42, Try.ntmps42
  go_wp2_with (go_at_call 40; refine (HV.out _).mono ?_; rintro e w1 ⟨rfl, hb1⟩)
  go_ret2
  exact ⟨rfl, ((Below.refl _ _).alloc (Nat.le_refl _) _).trans (hb1.mono (by simp))⟩
end Go.Proofs.Ytpjcaanlagibpaa

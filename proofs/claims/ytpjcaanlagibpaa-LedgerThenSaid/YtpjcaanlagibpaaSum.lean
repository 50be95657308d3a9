import Derived.Test.YtpjcaanlagibpaaProg
import Derived.WalkKit
import Derived.LoopTactic
import Derived.Outline
import Derived.WalkSpells
import Derived.WalkLawsBesides
import Derived.Laws.BitsAllLaws
import Derived.Lib.Hide
namespace Go.Proofs.Ytpjcaanlagibpaa
open Go.RowKit
set_option linter.unusedSimpArgs false
set_option linter.unusedVariables false

/-- one round of the sum -/
def fnvStep (h : Nat) (c : UInt8) : Nat := ((h ^^^ c.toNat) * 16777619) % 4294967296
def fnv (l : List UInt8) : Nat := l.foldl fnvStep 2166136261

theorem fnvStep_lt (h : Nat) (c : UInt8) : fnvStep h c < 4294967296 := by unfold fnvStep; omega
theorem fnv_snoc (l : List UInt8) (c : UInt8) : fnv (l ++ [c]) = fnvStep (fnv l) c := by unfold fnv; rw [List.foldl_append, List.foldl_cons, List.foldl_nil]
theorem fnv_lt (l : List UInt8) : fnv l < 4294967296 := by
  rcases List.eq_nil_or_concat l with rfl | ⟨l', c, rfl⟩
  · unfold fnv; rw [List.foldl_nil]; omega
  · rw [List.concat_eq_append, fnv_snoc]; exact fnvStep_lt _ _
theorem take_snoc (s : ByteArray) (k : Nat) (h : k < s.size) : s.data.toList.take (k + 1) = s.data.toList.take k ++ [s[k]] := by
  rw [List.take_succ_eq_append_getElem (by simpa using h)]; rfl

set_option maxHeartbeats 400000 in
theorem sum_any (s : ByteArray) (w : World) (hs : s.size ≤ maxLen) :
    Calls Try.prog 70 #[.string s] w fun e w' => e = .returned (.int .i64 (fnv s.data.toList)) ∧ w = w' := by
  unfold maxLen at hs
  go_enter Try.func70, Try.ntmps70
  go_wp2
  go_loop [3, 4, 7] (fun h j i => ∃ k : Nat, k ≤ s.size ∧ i = .int .i64 k ∧ h = .int .u32 (fnv (s.data.toList.take k))) (fun _ _ i => s.size - (intOf i).toNat)
  case atStart => exact ⟨0, Nat.zero_le _, rfl, rfl⟩
  case round =>
    obtain ⟨k, hk, rfl, rfl⟩ := hrel
    by_cases hlt : k < s.size
    · have e : bits BinOp.xor IntKind.u32 ((fnv (s.data.toList.take k) : Nat) : Int) ((s[k].toNat : Int) % 4294967296) * 16777619 % 4294967296 = ((fnv (s.data.toList.take (k + 1)) : Nat) : Int) := by
        have hc : (s[k].toNat : Int) % 4294967296 = ((s[k].toNat : Nat) : Int) := by
          have := s[k].toNat_lt; omega
        rw [hc, u32_xor_nat _ _ (fnv_lt _) (by have := s[k].toNat_lt; omega), take_snoc s k hlt, fnv_snoc]
        unfold fnvStep
        omega
      have E := Lib.hid e
      clear e
      go_wp2
      go_round
      case rel => exact ⟨k + 1, by omega, by go_num, by rw [E.out]⟩
      case measure => simp [intOf]; omega
    · have hb := fnv_lt (s.data.toList.take k)
      have E := Lib.hid (List.take_of_length_le (l := s.data.toList) (i := k) (by simp; omega))
      go_wp2
      go_ret
      exact ⟨congrArg (fun l => Ending.returned (.int .i64 (fnv l : Nat))) E.out, rfl⟩
end Go.Proofs.Ytpjcaanlagibpaa

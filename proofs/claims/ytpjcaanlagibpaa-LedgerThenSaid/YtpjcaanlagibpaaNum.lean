import Derived.Test.YtpjcaanlagibpaaWrit
namespace Go.Proofs.Ytpjcaanlagibpaa
open Go.RowKit
set_option linter.unusedSimpArgs false
set_option linter.unusedVariables false

/-- the number that bytes are, the highest first -/
def beVal (l : List UInt8) : Nat := l.foldl (fun n b => n * 256 + b.toNat) 0
theorem beVal_snoc (l : List UInt8) (b : UInt8) : beVal (l ++ [b]) = beVal l * 256 + b.toNat := by simp [beVal, List.foldl_append]
theorem beVal_lt_aux : ∀ (n : Nat) (l : List UInt8), l.length = n → beVal l < 256 ^ n
  | 0, l, h => by rw [List.eq_nil_of_length_eq_zero h]; simp [beVal]
  | n + 1, l, h => by
    rcases List.eq_nil_or_concat l with rfl | ⟨l', b, rfl⟩
    · simp at h
    · have ih := beVal_lt_aux n l' (by simpa using h)
      rw [List.concat_eq_append, beVal_snoc, Nat.pow_succ]
      have := b.toNat_lt
      omega
theorem beVal_lt (l : List UInt8) : beVal l < 256 ^ l.length := beVal_lt_aux _ l rfl

theorem or_byte (m c : Nat) (hc : c < 256) : (m * 256) ||| c = m * 256 + c := by
  have := Nat.two_pow_add_eq_or_of_lt (i := 8) (b := c) (by omega) m
  rw [show 2 ^ 8 * m = m * 256 from by omega] at this
  exact this.symm

theorem i64_or_byte (m : Nat) (c : UInt8) (hm : m < 4294967296) : bits .or .i64 ((m : Int) * 256) (wrap64 (c.toNat : Int)) = ((m * 256 + c.toNat : Nat) : Int) := by
  have hc := c.toNat_lt
  have e0 : wrap64 (c.toNat : Int) = (c.toNat : Int) := by unfold wrap64; omega
  have e1 : (BitVec.ofInt 64 ((m : Int) * 256)).toNat = m * 256 := by rw [BitVec.toNat_ofInt]; omega
  have e2 : (BitVec.ofInt 64 (c.toNat : Int)).toNat = c.toNat := by rw [BitVec.toNat_ofInt]; omega
  rw [e0]
  show IntKind.i64.wrap ((BitVec.ofInt 64 ((m : Int) * 256) ||| BitVec.ofInt 64 (c.toNat : Int)).toNat : Int) = _
  rw [BitVec.toNat_or, e1, e2, or_byte m c.toNat (by omega), IntKind.wrap_i64]
  omega

/-- bytes in memory -/
def BytesAt (w : World) (b off : Nat) (l : List UInt8) : Prop := ∀ i (h : i < l.length), w.cell? ⟨b, off + i, none⟩ = some (.int .u8 (l[i].toNat : Int))

set_option maxRecDepth 100000 in
set_option maxHeartbeats 4000000 in
theorem jnumber_any (b off cap : Nat) (l : List UInt8) (w : World) (hl : l.length ≤ 4) (hm : BytesAt w b off l) :
    Calls Try.prog 68 #[.slice (some ⟨b, off, none⟩) l.length cap] w fun e w' => e = .returned (.int .i64 (beVal l)) ∧ w' = w := by
  have hli : (l.length : Int) ≤ 4 := by omega
  have HM := Lib.hid hm
  clear hm
  go_enter Try.func68, Try.ntmps68
  go_wp2
  go_loop [3, 5, 8] (fun n _ i => ∃ k : Nat, k ≤ l.length ∧ i = .int .i64 k ∧ n = .int .i64 (beVal (l.take k))) (fun _ _ i => l.length - (intOf i).toNat)
  case atStart => exact ⟨0, Nat.zero_le _, rfl, rfl⟩
  case round =>
    obtain ⟨k, hk, rfl, rfl⟩ := hrel
    by_cases hlt : k < l.length
    · have hc := HM.out k hlt
      have hb := beVal_lt (l.take k)
      have hbb : beVal (l.take k) < 4294967296 := Nat.lt_of_lt_of_le hb (by
        have : (l.take k).length ≤ 4 := by simp; omega
        exact Nat.le_trans (Nat.pow_le_pow_right (by omega) this) (by decide))
      clear hb
      have E := Lib.hid (i64_or_byte (beVal (l.take k)) l[k] hbb)
      have T := Lib.hid (show beVal (l.take (k + 1)) = beVal (l.take k) * 256 + l[k].toNat from by rw [List.take_succ_eq_append_getElem hlt, beVal_snoc])
      go_wp2
      go_round
      case rel => exact ⟨k + 1, by omega, by go_num, by rw [E.out, T.out]⟩
      case measure => simp [intOf]; omega
    · have E := Lib.hid (List.take_of_length_le (l := l) (i := k) (by omega))
      go_wp2
      go_ret
      exact ⟨congrArg (fun x => Ending.returned (.int .i64 (beVal x : Nat))) E.out, rfl⟩
end Go.Proofs.Ytpjcaanlagibpaa

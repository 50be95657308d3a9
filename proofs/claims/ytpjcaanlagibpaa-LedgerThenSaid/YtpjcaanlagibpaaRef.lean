import Derived.Test.YtpjcaanlagibpaaLed
import Derived.Test.YtpjcaanlagibpaaEnc
import Derived.Laws.MakeOwn
import Derived.Laws.Concat
namespace Go.Proofs.Ytpjcaanlagibpaa
open Go.RowKit
set_option linter.unusedSimpArgs false
set_option linter.unusedVariables false

theorem i64_and255 (n : Int) : bits .and .i64 n 255 = n % 256 := by
  have h127 : (BitVec.ofInt 64 255).toNat = 2 ^ 8 - 1 := by decide
  have key : (BitVec.ofInt 64 n &&& BitVec.ofInt 64 255).toNat = (n % ((2 ^ 64 : Nat) : Int)).toNat % 2 ^ 8 := by
    rw [BitVec.toNat_and, BitVec.toNat_ofInt, h127, Nat.and_two_pow_sub_one_eq_mod]
  show IntKind.i64.wrap ((BitVec.ofInt 64 n &&& BitVec.ofInt 64 255).toNat : Nat) = n % 256
  rw [key, IntKind.wrap_i64]
  omega

theorem i64_xor_nat (a b : Nat) (ha : a < 2 ^ 62) (hb : b < 2 ^ 62) : bits .xor .i64 (a : Int) (b : Int) = ((a ^^^ b : Nat) : Int) := by
  have hx : a ^^^ b < 2 ^ 62 := Nat.xor_lt_two_pow ha hb
  have ea : ∀ n : Nat, n < 2 ^ 62 → (BitVec.ofInt 64 (n : Int)).toNat = n := fun n hn => by rw [BitVec.toNat_ofInt]; omega
  show IntKind.i64.wrap ((BitVec.ofInt 64 (a : Int) ^^^ BitVec.ofInt 64 (b : Int)).toNat : Int) = _
  rw [BitVec.toNat_xor, ea a ha, ea b hb, IntKind.wrap_i64]
  omega

theorem fnv_i64 (h : Nat) (c : UInt8) (hh : h < 4294967296) : (wrap64 (bits .xor .i64 (h : Int) (wrap64 (c.toNat : Int)) * 16777619)).tmod 4294967296 = ((fnvStep h c : Nat) : Int) := by
  have hc := c.toNat_lt
  have e1 : wrap64 (c.toNat : Int) = (c.toNat : Int) := by unfold wrap64; omega
  have hx : h ^^^ c.toNat < 2 ^ 32 := Nat.xor_lt_two_pow (by omega) (by omega)
  rw [e1, i64_xor_nat h c.toNat (by omega) (by omega)]
  have e2 : wrap64 (((h ^^^ c.toNat : Nat) : Int) * 16777619) = ((h ^^^ c.toNat : Nat) : Int) * 16777619 := by unfold wrap64; omega
  rw [e2, Int.tmod_eq_emod_of_nonneg (by omega)]
  unfold fnvStep
  omega

theorem ok_iff (d : Dec) : d.ok = true ↔ (0 ≤ d.day ∧ d.day ≤ 40000) ∧ (0 ≤ d.known ∧ d.known ≤ 400) ∧ (1 ≤ d.kind ∧ d.kind ≤ 5) ∧ (0 ≤ d.subject ∧ d.subject ≤ 40) ∧ (0 ≤ d.value ∧ d.value ≤ 1) := by
  simp [Dec.ok, validB, inB]

theorem ok_false (d : Dec) (h : ¬ ((0 ≤ d.day ∧ d.day ≤ 40000) ∧ (0 ≤ d.known ∧ d.known ≤ 400) ∧ (1 ≤ d.kind ∧ d.kind ≤ 5) ∧ (0 ≤ d.subject ∧ d.subject ≤ 40) ∧ (0 ≤ d.value ∧ d.value ≤ 1))) : d.ok = false := by
  rw [← ok_iff] at h; simpa using h

set_option maxRecDepth 100000 in
set_option maxHeartbeats 4000000 in
theorem refvalid_yes (d : Dec) (w : World) (h : d.ok = true) :
    Calls Try.prog 60 #[d.val] w fun e w' => e = .returned (.bool true) ∧ Below w.heap.size w w' := by
  obtain ⟨⟨h1, h2⟩, ⟨h3, h4⟩, ⟨h5, h6⟩, ⟨h7, h8⟩, ⟨h9, h10⟩⟩ := (ok_iff d).1 h
  have hv : d.value = 0 ∨ d.value = 1 := by omega
  unfold Dec.val
  clear h
  rcases hv with hv | hv
  · rw [hv] at h9 h10 ⊢
    clear hv
    go_enter Try.func60, Try.ntmps60
    go_wp2
    go_ret
    exact ⟨rfl, (Below.refl _ _).alloc (Nat.le_refl _) _⟩
  · rw [hv] at h9 h10 ⊢
    clear hv
    go_enter Try.func60, Try.ntmps60
    go_wp2
    go_ret
    exact ⟨rfl, (Below.refl _ _).alloc (Nat.le_refl _) _⟩

set_option maxRecDepth 100000 in
set_option maxHeartbeats 4000000 in
theorem refsum_any (s : ByteArray) (w : World) (hs : s.size ≤ maxLen) :
    Calls Try.prog 56 #[.string s] w fun e w' => e = .returned (.int .i64 (fnv s.data.toList)) ∧ w' = w := by
  unfold maxLen at hs
  go_enter Try.func56, Try.ntmps56
  go_wp2
  go_loop [3, 4] (fun h i => ∃ k : Nat, k ≤ s.size ∧ i = .int .i64 k ∧ h = .int .i64 (fnv (s.data.toList.take k))) (fun _ i => s.size - (intOf i).toNat)
  case atStart => exact ⟨0, Nat.zero_le _, rfl, rfl⟩
  case round =>
    obtain ⟨k, hk, rfl, rfl⟩ := hrel
    by_cases hlt : k < s.size
    · have hf := fnv_lt (s.data.toList.take k)
      have E := Lib.hid (fnv_i64 _ s[k] hf)
      have T := Lib.hid (take_snoc s k hlt)
      go_wp2
      go_round
      case rel => exact ⟨k + 1, by omega, by go_num, by rw [E.out, T.out, fnv_snoc]⟩
      case measure => simp [intOf]; omega
    · have hb := fnv_lt (s.data.toList.take k)
      have E := Lib.hid (List.take_of_length_le (l := s.data.toList) (i := k) (by simp; omega))
      go_wp2
      go_ret
      exact ⟨congrArg (fun l => Ending.returned (.int .i64 (fnv l : Nat))) E.out, rfl⟩

/-- a number in w bytes, the highest first -/
def beBytes (n w : Nat) : List UInt8 := bytesOf (fun o => byteOf n (w - 1 - o)) w

theorem infoU8 : (Try.prog.info? 5).map (fun i => (i.zero, i.size, i.bytes)) = some (some (.int .u8 0), 1, 1) := by kernel_rfl

set_option maxRecDepth 100000 in
set_option maxHeartbeats 4000000 in
theorem refnumber_any (n b : Nat) (w : World) (hn : n < 9000000000000000000) (hb : 1 ≤ b) (hb2 : b ≤ 8) :
    Calls Try.prog 66 #[.int .i64 n, .int .i64 b] w fun e w' => e = .returned (.string ⟨(beBytes n b).toArray⟩) ∧ Below w.heap.size w w' := by
  have hn2 : (n : Int) < 9000000000000000000 := by omega
  have hb3 : (b : Int) ≤ 8 := by omega
  go_enter Try.func66, Try.ntmps66
  go_wp2_with fail
  obtain ⟨i0, hi, hz0, hz1, hz2⟩ := info_parts infoU8
  have hmk := run_makeSlice (P := Try.prog) w 60 5 i0 (.int .u8 0) Try.underlying60 hi hz0 .i64 .i64 (b : Int) (b : Int) (by omega) (by omega) (by rw [hz1]; omega) (by rw [hz2]; omega) (by omega)
  rw [hmk]
  have hc : ∀ i, i < b → (w.alloc (.cells (madeCells (Value.int .u8 0).cells ((b : Int).toNat * i0.size)) 5)).cell? ⟨w.heap.size, i, none⟩ = some (.int .u8 0) := by
    intro i hib
    rw [World.cell?_alloc_at _ _ _ _ rfl, ← Array.getElem?_toList, show (Value.int .u8 0).cells = #[.int .u8 0] from rfl, toList_madeCells_one, List.getElem?_replicate, if_pos (by rw [hz1]; omega)]
  have hf : ∀ i, (w.alloc (.cells (madeCells (Value.int .u8 0).cells ((b : Int).toNat * i0.size)) 5)).frozen? ⟨w.heap.size, i, none⟩ = false := by
    intro i; simp
  have hB : Below w.heap.size w (w.alloc (.cells (madeCells (Value.int .u8 0).cells ((b : Int).toNat * i0.size)) 5)) := (Below.refl _ _).alloc (Nat.le_refl _) _
  have hsz : w.heap.size < (w.alloc (.cells (madeCells (Value.int .u8 0).cells ((b : Int).toNat * i0.size)) 5)).heap.size := by simp
  generalize (w.alloc (.cells (madeCells (Value.int .u8 0).cells ((b : Int).toNat * i0.size)) 5)) = W at *
  rw [show (b : Int).toNat = b from by omega]
  have HC := Lib.hid hc
  have HF := Lib.hid hf
  have HB := Lib.hid hB
  clear hc hf hB hmk hi hz0 hz1 hz2
  go_wp2_with fail
  go_loopw [0, 6] (fun m i wr => ∃ k : Nat, k ≤ b ∧ i = .int .i64 ((k : Int) - 1) ∧ m = .int .i64 ((n / 256 ^ (b - k) : Nat) : Int) ∧ Put W wr w.heap.size (0 + k) (0 + b) (fun o => byteOf n (b - 1 - o))) (fun _ i _ => (intOf i + 1).toNat)
  case atStart => exact ⟨b, Nat.le_refl _, rfl, by simp, Put.refl _ _ _ _ (Nat.le_refl _) _⟩
  case round =>
    obtain ⟨k, hk, rfl, rfl, hP⟩ := hrel
    by_cases hlt : 0 < k
    · have hv' : wr.cell? ⟨w.heap.size, k - 1, none⟩ = some (.int .u8 0) := by rw [hP.cell, if_neg (by omega)]; exact HC.out _ (by omega)
      have hf' : wr.frozen? ⟨w.heap.size, k - 1, none⟩ = false := by rw [hP.frozen]; exact HF.out _
      have hm0 : n / 256 ^ (b - k) ≤ n := Nat.div_le_self _ _
      have hms : n / 256 ^ (b - k) / 256 = n / 256 ^ (b - (k - 1)) := by
        rw [Nat.div_div_eq_div_mul, ← Nat.pow_succ]; congr 2; omega
      have HS := Lib.hid hms
      have HP := Lib.hid hP
      have hbk : w.heap.size < wr.heap.size := World.block_lt_of_cell? wr ⟨w.heap.size, k - 1, none⟩ hv'
      clear hms hP
      generalize hm : n / 256 ^ (b - k) = m at *
      have HM := Lib.hid hm
      have HA := Lib.hid (i64_and255 (m : Int))
      clear hm
      have hmm : (m : Int) < 9000000000000000000 := by omega
      have hk0 : (0 : Int) ≤ (k : Int) - 1 := by omega
      have hk1 : (1 : Int) ≤ (k : Int) := by omega
      have hk2 : (k : Int) - 1 < (b : Int) := by omega
      go_wp2
      refine ⟨⟨k - 1, by omega, congrArg (Value.int .i64) (by omega), ?_, ?_⟩, by simp [intOf]; omega⟩
      · rw [← HS.out]; rfl
      · have h1 : Put W wr w.heap.size ((0 + (k - 1)) + 1) (0 + b) (fun o => byteOf n (b - 1 - o)) := by
          rw [show (0 + (k - 1)) + 1 = 0 + k from by omega]; exact HP.out
        have h2 := h1.step (by omega) (by rw [Nat.zero_add]; exact hv')
        have h3 : ((byteOf n (b - 1 - (0 + (k - 1))) : Nat) : Int) = bits BinOp.and IntKind.i64 (m : Int) 255 % 256 := by
          rw [HA.out]
          unfold byteOf
          rw [show b - 1 - (0 + (k - 1)) = b - k from by omega, HM.out]
          omega
        rw [h3, Nat.zero_add] at h2
        rw [Nat.zero_add]
        exact h2
    · have hk0 : k = 0 := by omega
      subst hk0
      have hcv : (convert 60 9 (.slice (some ⟨w.heap.size, 0, none⟩) b b)).run Try.prog wr = .ok (.string ⟨(beBytes n b).toArray⟩) wr := by
        have hl : (beBytes n b).length = b := by simp [beBytes, bytesOf]
        have := run_convert_bytes_back (P := Try.prog) wr 60 9 5 ⟨w.heap.size, 0, none⟩ b (beBytes n b) Try.underlying60 Try.underlying5 Try.underlying9 (fun j hj => by
          have hp : (⟨w.heap.size, 0, none⟩ : Addr).add j = ⟨w.heap.size, j, none⟩ := by unfold Addr.add; split <;> simp_all
          rw [hp, hP.cell, if_pos (by omega)]
          have := byteOf_lt n (b - 1 - j)
          simp [beBytes, bytesOf, Nat.mod_eq_of_lt this])
        rw [hl] at this
        exact this
      have hBB := HB.out.trans hP.below
      have HV := Lib.hid hcv
      clear hP hcv
      generalize n / 256 ^ (b - 0) = m at *
      go_wp2_with fail
      rw [HV.out]
      go_wp2
      go_ret
      exact ⟨rfl, hBB⟩
end Go.Proofs.Ytpjcaanlagibpaa

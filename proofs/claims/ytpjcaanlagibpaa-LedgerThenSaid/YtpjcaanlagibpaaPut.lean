import Derived.Test.YtpjcaanlagibpaaChk
namespace Go.Proofs.Ytpjcaanlagibpaa
open Go.RowKit
set_option linter.unusedSimpArgs false
set_option linter.unusedVariables false

theorem checkFrom_one (d : Dec) : checkFrom [d] 0 = if d.ok then 0 else 57 := by
  rw [checkFrom, dif_pos (by simp), checkFrom, dif_neg (by simp)]
  simp only [List.take_zero, List.getElem_cons_zero, followsE, List.getLast?_nil]
  by_cases h : d.ok = true <;> simp [h]

set_option maxRecDepth 100000 in
set_option maxHeartbeats 1000000 in
theorem jvalid_any (d : Dec) (w : World) :
    Calls Try.prog 64 #[d.val] w fun e w' => e = .returned (.bool d.ok) ∧ Below w.heap.size w w' := by
  unfold Dec.val
  go_enter Try.func64, Try.ntmps64
  go_wp2_with fail
  refine (check_any (w.heap.size + 1) 0 1 [d] _ (by simp) (by simp) (by simp) ?_).mono ?_
  · intro i hi
    have : i = 0 := by simpa using hi
    subst this
    exact ⟨World.cell?_alloc_at _ _ _ _ (by simp), World.cell?_alloc_at _ _ _ _ (by simp), World.cell?_alloc_at _ _ _ _ (by simp), World.cell?_alloc_at _ _ _ _ (by simp), World.cell?_alloc_at _ _ _ _ (by simp)⟩
  rintro e w1 ⟨rfl, hb1⟩
  rw [checkFrom_one]
  have hB : Below w.heap.size w w1 := (((Below.refl _ _).alloc (Nat.le_refl _) _).alloc (by simp) _).trans (hb1.mono (by simp; omega))
  clear hb1
  cases hk : d.ok
  all_goals
    go_wp2
    go_ret
    exact ⟨by rw [hk]; rfl, hB⟩

/-- byte number j of n, the lowest first -/
def byteOf (n : Nat) (j : Nat) : Nat := n / 256 ^ j % 256

structure Put (w w' : World) (b lo hi : Nat) (f : Nat → Nat) : Prop where
  below : Below b w w'
  size : w'.heap.size = w.heap.size
  frozen : ∀ a, w'.frozen? a = w.frozen? a
  cell : ∀ o, w'.cell? ⟨b, o, none⟩ = if lo ≤ o ∧ o < hi then some (.int .u8 ((f o : Nat) : Int)) else w.cell? ⟨b, o, none⟩

theorem Put.refl (w : World) (b lo hi : Nat) (h : hi ≤ lo) (f : Nat → Nat) : Put w w b lo hi f :=
  ⟨Below.refl _ _, rfl, fun _ => rfl, fun o => by rw [if_neg (by omega)]⟩

theorem Put.step {w wr : World} {b lo hi : Nat} {f : Nat → Nat} (h : Put w wr b (lo + 1) hi f) (hlo : lo < hi) {v : Value} (hv : wr.cell? ⟨b, lo, none⟩ = some v) :
    Put w (wr.setCell ⟨b, lo, none⟩ (.int .u8 ((f lo : Nat) : Int))) b lo hi f := by
  refine ⟨h.below.setCell (Nat.le_refl _) _, by simp [h.size], fun a => by rw [World.frozen?_setCell, h.frozen], fun o => ?_⟩
  by_cases ho : o = lo
  · subst ho
    rw [World.cell?_setCell_same (h := hv), if_pos ⟨Nat.le_refl _, hlo⟩]
  · rw [World.cell?_setCell_other (h := by intro he; injection he with h1 h2 h3; exact ho h2.symm), h.cell]
    by_cases h1 : lo + 1 ≤ o ∧ o < hi
    · rw [if_pos h1, if_pos (by omega)]
    · rw [if_neg h1, if_neg (by omega)]

set_option maxRecDepth 100000 in
set_option maxHeartbeats 1000000 in
theorem put_any (b off len cap n : Nat) (w : World) (hn : n < 9000000000000000000) (hl : len ≤ 1000)
    (hc : ∀ i, i < len → ∃ v, w.cell? ⟨b, off + i, none⟩ = some (.int .u8 v)) (hf : ∀ i, i < len → w.frozen? ⟨b, off + i, none⟩ = false) :
    Calls Try.prog 65 #[.slice (some ⟨b, off, none⟩) len cap, .int .i64 n] w fun e w' => e = .returned (.tuple #[]) ∧ Put w w' b off (off + len) (fun o => byteOf n (off + len - 1 - o)) := by
  have hn2 : (n : Int) < 9000000000000000000 := by omega
  go_enter Try.func65, Try.ntmps65
  go_wp2
  go_loopw [1, 4] (fun m i wr => ∃ k : Nat, k ≤ len ∧ i = .int .i64 ((k : Int) - 1) ∧ m = .int .i64 ((n / 256 ^ (len - k) : Nat) : Int) ∧ Put w wr b (off + k) (off + len) (fun o => byteOf n (off + len - 1 - o))) (fun _ i _ => (intOf i + 1).toNat)
  case atStart => exact ⟨len, Nat.le_refl _, rfl, by simp, Put.refl _ _ _ _ (Nat.le_refl _) _⟩
  case round =>
    obtain ⟨k, hk, rfl, rfl, hP⟩ := hrel
    by_cases hlt : 0 < k
    · obtain ⟨v, hv⟩ := hc (k - 1) (by omega)
      have hff := hf (k - 1) (by omega)
      have hv' : wr.cell? ⟨b, off + (k - 1), none⟩ = some (.int .u8 v) := by rw [hP.cell, if_neg (by omega)]; exact hv
      have hf' : wr.frozen? ⟨b, off + (k - 1), none⟩ = false := by rw [hP.frozen]; exact hff
      have hm0 : n / 256 ^ (len - k) ≤ n := Nat.div_le_self _ _
      have hms : n / 256 ^ (len - k) / 256 = n / 256 ^ (len - (k - 1)) := by
        rw [Nat.div_div_eq_div_mul, ← Nat.pow_succ]; congr 2; omega
      have HS := Lib.hid hms
      have HP := Lib.hid hP
      have HC := Lib.hid hc
      have HF := Lib.hid hf
      have hbk : b < wr.heap.size := World.block_lt_of_cell? wr ⟨b, off + (k - 1), none⟩ hv'
      clear hms hP hc hf hv hff
      generalize hm : n / 256 ^ (len - k) = m at *
      have HM := Lib.hid hm
      clear hm
      have hmm : (m : Int) < 9000000000000000000 := by omega
      have hk0 : (0 : Int) ≤ (k : Int) - 1 := by omega
      have hk1 : (1 : Int) ≤ (k : Int) := by omega
      have hk2 : (k : Int) - 1 < (len : Int) := by omega
      go_wp2
      refine ⟨⟨k - 1, by omega, congrArg (Value.int .i64) (by omega), ?_, ?_⟩, by simp [intOf]; omega⟩
      · rw [← HS.out]; rfl
      · have h1 : Put w wr b (off + (k - 1) + 1) (off + len) (fun o => byteOf n (off + len - 1 - o)) := by
          rw [show off + (k - 1) + 1 = off + k from by omega]; exact HP.out
        have h2 := h1.step (by omega) hv'
        have h3 : ((byteOf n (off + len - 1 - (off + (k - 1))) : Nat) : Int) = (m : Int) % 256 := by
          unfold byteOf
          rw [show off + len - 1 - (off + (k - 1)) = len - k from by omega, HM.out]
          rfl
        rw [h3] at h2
        exact h2
    · have hk0 : k = 0 := by omega
      subst hk0
      have HP := Lib.hid hP
      clear hP hc hf
      generalize n / 256 ^ (len - 0) = m at *
      go_wp2
      go_end0
      exact ⟨rfl, by simpa using HP.out⟩
end Go.Proofs.Ytpjcaanlagibpaa

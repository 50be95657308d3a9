import Derived.Test.YtpjcaanlagibpaaLaw
namespace Go.Proofs.Ytpjcaanlagibpaa
open Go.RowKit
set_option linter.unusedSimpArgs false
set_option linter.unusedVariables false

theorem fnv_a : fnv [97] = 3826002220 := by decide +kernel
theorem fnv_foobar : fnv [102, 111, 111, 98, 97, 114] = 3214735720 := by decide +kernel

theorem inv1 (M p i t : Nat) (hp : p * i = 1 + M * t) (z : Nat) (hz : z < M) : (z * p % M) * i % M = z := by
  rw [Nat.mod_mul_mod, Nat.mul_assoc, hp, Nat.mul_add, Nat.mul_one, Nat.mul_left_comm, Nat.add_mul_mod_self_left, Nat.mod_eq_of_lt hz]
theorem inv2 (z : Nat) (hz : z < 4294967296) : (z * 16777619 % 4294967296) * 899433627 % 4294967296 = z :=
  inv1 4294967296 16777619 899433627 3513497 (by decide +kernel) z hz
theorem mul_inj (x y : Nat) (hx : x < 4294967296) (hy : y < 4294967296) (h : x * 16777619 % 4294967296 = y * 16777619 % 4294967296) : x = y := by
  rw [← inv2 x hx, ← inv2 y hy, h]

theorem xor_inj (a b c : Nat) (h : a ^^^ c = b ^^^ c) : a = b := by
  have := congrArg (· ^^^ c) h
  simpa [Nat.xor_assoc] using this

theorem xor_lt (h : Nat) (c : UInt8) (hh : h < 4294967296) : h ^^^ c.toNat < 4294967296 :=
  Nat.xor_lt_two_pow (n := 32) hh (by have := c.toNat_lt; omega)

theorem fnvStep_inj_left {g h : Nat} {c : UInt8} (hg : g < 4294967296) (hh : h < 4294967296) (e : fnvStep g c = fnvStep h c) : g = h :=
  xor_inj _ _ _ (mul_inj _ _ (xor_lt _ _ hg) (xor_lt _ _ hh) e)

theorem fnvStep_inj_right {h : Nat} {c d : UInt8} (hh : h < 4294967296) (e : fnvStep h c = fnvStep h d) : c = d := by
  have := mul_inj _ _ (xor_lt _ _ hh) (xor_lt _ _ hh) e
  rw [Nat.xor_comm h, Nat.xor_comm h] at this
  exact UInt8.toNat_inj.1 (xor_inj _ _ _ this)

theorem fold_inj : ∀ (l : List UInt8) (g h : Nat), g < 4294967296 → h < 4294967296 → l.foldl fnvStep g = l.foldl fnvStep h → g = h
  | [], _, _, _, _, e => e
  | c :: l, g, h, hg, hh, e => fnvStep_inj_left hg hh (fold_inj l _ _ (fnvStep_lt _ _) (fnvStep_lt _ _) e)

theorem fold_set : ∀ (l : List UInt8) (i : Nat) (h : Nat) (c : UInt8) (hi : i < l.length), h < 4294967296 → c ≠ l[i] → (l.set i c).foldl fnvStep h ≠ l.foldl fnvStep h
  | [], i, h, c, hi, hh, hne => by simp at hi
  | x :: l, 0, h, c, hi, hh, hne => by
    intro e
    simp only [List.set_cons_zero, List.foldl_cons] at e
    exact hne (fnvStep_inj_right hh (fold_inj l _ _ (fnvStep_lt _ _) (fnvStep_lt _ _) e))
  | x :: l, i + 1, h, c, hi, hh, hne => by
    simp only [List.set_cons_succ, List.foldl_cons]
    exact fold_set l i _ c (by simpa using hi) (fnvStep_lt _ _) (by simpa using hne)

theorem fnv_set (l : List UInt8) (i : Nat) (c : UInt8) (hi : i < l.length) (hne : c ≠ l[i]) : fnv (l.set i c) ≠ fnv l :=
  fold_set l i _ c hi (by omega) hne

set_option maxRecDepth 100000 in
set_option maxHeartbeats 1000000 in
theorem sum_a (w : World) : Calls Try.prog 55 #[.string ⟨#[97]⟩] w fun e w' => e = .returned (.int .i64 3826002220) ∧ w' = w := by
  have := sum4_any ⟨#[97]⟩ w (by decide)
  rw [show (⟨#[97]⟩ : ByteArray).data.toList = [97] from rfl, fnv_a] at this
  exact this
theorem sum_foobar (w : World) : Calls Try.prog 55 #[.string ⟨#[102, 111, 111, 98, 97, 114]⟩] w fun e w' => e = .returned (.int .i64 3214735720) ∧ w' = w := by
  have := sum4_any ⟨#[102, 111, 111, 98, 97, 114]⟩ w (by decide)
  rw [show (⟨#[102, 111, 111, 98, 97, 114]⟩ : ByteArray).data.toList = [102, 111, 111, 98, 97, 114] from rfl, fnv_foobar] at this
  exact this

set_option maxRecDepth 100000 in
set_option maxHeartbeats 1000000 in
theorem law_short (s : ByteArray) (t y : Nat) (w : World) (h : s.size = 0 ∨ 1000 < s.size) (hm : s.size ≤ maxLen) :
    Calls Try.prog 12 #[.string s, .int .u8 t, .int .u8 y] w fun e w' => e = .returned (.bool true) ∧ Below w.heap.size w w' := by
  unfold maxLen at hm
  rcases h with h | h
  · have he : s.toList = [] := by
      rw [ByteArray.toList_eq]; exact List.eq_nil_of_length_eq_zero (by rw [Array.length_toList]; exact h)
    clear h
    go_enter Try.func12, Try.ntmps12
    go_wp2_with fail
    refine (sum_a _).mono ?_
    rintro e w1 ⟨rfl, rfl⟩
    go_wp2_with fail
    refine (sum_foobar _).mono ?_
    rintro e w1 ⟨rfl, rfl⟩
    go_wp2_with (go_at_call 38; refine (awake_any _).mono ?_; rintro e w1 ⟨rfl, hb⟩)
    go_ret
    exact ⟨rfl, hb⟩
  · have he : s.toList.isEmpty = false := by
      rw [ByteArray.toList_eq]
      cases hl : s.data.toList with
      | nil => have : s.data.toList.length = 0 := by rw [hl]; rfl
               rw [Array.length_toList] at this
               have h2 : s.size = 0 := this
               omega
      | cons a l => rfl
    have hi : (1000 : Int) < (s.size : Int) := by omega
    go_enter Try.func12, Try.ntmps12
    go_wp2_with fail
    refine (sum_a _).mono ?_
    rintro e w1 ⟨rfl, rfl⟩
    go_wp2_with fail
    refine (sum_foobar _).mono ?_
    rintro e w1 ⟨rfl, rfl⟩
    go_wp2_with (go_at_call 38; refine (awake_any _).mono ?_; rintro e w1 ⟨rfl, hb⟩)
    go_ret
    exact ⟨rfl, hb⟩

theorem bytes_new (s : ByteArray) (w1 : World) : ∃ cap v, (convert 9 60 (.string s)).run Try.prog w1 = .ok (.slice (some ⟨w1.heap.size, 0, none⟩) s.size cap) v ∧ Below w1.heap.size w1 v ∧ w1.heap.size < v.heap.size ∧
    (∀ j (h : j < s.data.toList.length), v.cell? ⟨w1.heap.size, j, none⟩ = some (.int .u8 (s.data.toList[j].toNat : Int))) ∧ (∀ j, j < s.size → v.frozen? ⟨w1.heap.size, j, none⟩ = false) := by
  refine ⟨_, _, run_bytes_of_string (P := Try.prog) w1 9 60 5 s Try.underlying9 Try.underlying60 Try.underlying5, ((Below.refl _ _).drew).alloc (Nat.le_refl _) _, by simp, ?_, ?_⟩
  · intro j hj
    have := World.cell?_alloc_mark w1.drew (bytesRow s (grownCap w1 s.size 0 5)) 5 ((bytesRow s (grownCap w1 s.size 0 5)).size, (bytesRow s (grownCap w1 s.size 0 5)).size + 1) j
    rw [bytesRow_at s _ j (by simpa using hj)] at this
    exact this
  · intro j hj
    have := World.frozen?_alloc_mark w1.drew (bytesRow s (grownCap w1 s.size 0 5)) 5 (bytesRow s (grownCap w1 s.size 0 5)).size ((bytesRow s (grownCap w1 s.size 0 5)).size + 1) j
    refine this.trans ?_
    have h2 : j < (bytesRow s (grownCap w1 s.size 0 5)).size := by
      unfold bytesRow
      rw [Array.size_append]
      have : s.size = s.data.size := rfl
      simp
      omega
    simp; omega

/-- the new bytes -/
def newByte (c : UInt8) (y : Nat) : UInt8 := UInt8.ofNat (c.toNat + (1 + y % 255))
theorem newByte_ne (c : UInt8) (y : Nat) : newByte c y ≠ c := by
  intro h
  have := congrArg UInt8.toNat h
  have hc := c.toNat_lt
  simp [newByte] at this
  omega

set_option maxRecDepth 100000 in
set_option maxHeartbeats 1000000 in
theorem law_long (s : ByteArray) (t y : Nat) (w : World) (h0 : 0 < s.size) (h1 : s.size ≤ 1000) (ht : t < 256) (hy : y < 256) :
    Calls Try.prog 12 #[.string s, .int .u8 t, .int .u8 y] w fun e w' => e = .returned (.bool true) ∧ Below w.heap.size w w' := by
  have he : s.toList.isEmpty = false := by
      rw [ByteArray.toList_eq]
      cases hl : s.data.toList with
      | nil => have : s.data.toList.length = 0 := by rw [hl]; rfl
               rw [Array.length_toList] at this
               have h2 : s.size = 0 := this
               omega
      | cons a l => rfl
  have hi : (s.size : Int) ≤ 1000 := by omega
  have HC := Lib.hid (fun w1 => bytes_new s w1)
  go_enter Try.func12, Try.ntmps12
  go_wp2_with fail
  refine (sum_a _).mono ?_
  rintro e w1 ⟨rfl, rfl⟩
  go_wp2_with fail
  refine (sum_foobar _).mono ?_
  rintro e w1 ⟨rfl, rfl⟩
  go_wp2_with fail
  obtain ⟨cap, v, hrun, hbl, hvs, hcell, hfree⟩ := HC.out w1
  rw [hrun]
  have hi0 : (0 : Int) ≤ (t : Int) % (s.size : Int) := Int.emod_nonneg _ (by omega)
  have hi1 : (t : Int) % (s.size : Int) < (s.size : Int) := Int.emod_lt_of_pos _ (by omega)
  have hlt : t % s.size < s.size := Nat.mod_lt _ h0
  have hc1 := hcell (t % s.size) (by rw [Array.length_toList]; exact hlt)
  have hf1 := hfree (t % s.size) hlt
  obtain ⟨c, hcc⟩ : ∃ c, s.data.toList[t % s.size]'(by rw [Array.length_toList]; exact hlt) = c := ⟨_, rfl⟩
  rw [hcc] at hc1
  have hcb := c.toNat_lt
  have HCell := Lib.hid hcell
  have HB := Lib.hid hbl
  have HCC := Lib.hid hcc
  clear hrun hcell hfree hbl hcc
  go_wp2_with fail
  have hlen : (s.data.toList.set (t % s.size) (newByte c y)).length = s.size := by rw [List.length_set, Array.length_toList]; rfl
  have hnb : ((newByte c y).toNat : Int) = ((c.toNat : Int) + (1 + (y : Int) % 255)) % 256 := by
    simp [newByte]
  have hcv := run_convert_bytes_back (P := Try.prog) (v.setCell ⟨w1.heap.size, t % s.size, none⟩ (.int .u8 (((c.toNat : Int) + (1 + (y : Int) % 255)) % 256))) 60 9 5 ⟨w1.heap.size, 0, none⟩ cap (s.data.toList.set (t % s.size) (newByte c y)) Try.underlying60 Try.underlying5 Try.underlying9 (fun j hj => by
    have hp : (⟨w1.heap.size, 0, none⟩ : Addr).add j = ⟨w1.heap.size, j, none⟩ := by unfold Addr.add; split <;> simp_all
    rw [hp, List.getElem_set]
    by_cases hj2 : t % s.size = j
    · subst hj2
      rw [World.cell?_setCell_same (h := hc1), if_pos rfl, hnb]
    · rw [World.cell?_setCell_other (h := by intro he; injection he with h1 h2 h3; exact hj2 h2), if_neg hj2]
      exact HCell.out j (by rw [List.length_set] at hj; exact hj))
  rw [hlen] at hcv
  rw [hcv]
  have hB2 : Below w1.heap.size w1 (v.setCell ⟨w1.heap.size, t % s.size, none⟩ (.int .u8 (((c.toNat : Int) + (1 + (y : Int) % 255)) % 256))) := HB.out.setCell (Nat.le_refl _) _
  have hne : fnv (s.data.toList.set (t % s.size) (newByte c y)) ≠ fnv s.data.toList := by
    refine fnv_set _ _ _ (by rw [Array.length_toList]; exact hlt) ?_
    rw [HCC.out]
    exact newByte_ne c y
  have hs1 := fun w1 => sum4_any ⟨(s.data.toList.set (t % s.size) (newByte c y)).toArray⟩ w1 (by show (s.data.toList.set (t % s.size) (newByte c y)).toArray.size ≤ _; rw [List.size_toArray, hlen]; unfold maxLen; omega)
  have hs2 := fun w1 => sum4_any s w1 (by unfold maxLen; omega)
  have hd : (⟨(s.data.toList.set (t % s.size) (newByte c y)).toArray⟩ : ByteArray).data.toList = s.data.toList.set (t % s.size) (newByte c y) := rfl
  have hl1 := fnv_lt (s.data.toList.set (t % s.size) (newByte c y))
  have hl2 := fnv_lt s.data.toList
  rw [hd] at hs1
  generalize (⟨(s.data.toList.set (t % s.size) (newByte c y)).toArray⟩ : ByteArray) = s' at *
  generalize fnv (s.data.toList.set (t % s.size) (newByte c y)) = p at *
  generalize fnv s.data.toList = q at *
  have hne2 : ((p : Int) == (q : Int)) = false := by simp; omega
  have hne3 : ((p : Int) != (q : Int)) = true := by simp; omega
  have hq0 : (0 : Int) ≤ (q : Int) := by omega
  have hq1 : (q : Int) < 4294967296 := by omega
  generalize v.setCell ⟨w1.heap.size, t % s.size, none⟩ (.int .u8 (((c.toNat : Int) + (1 + (y : Int) % 255)) % 256)) = v2 at *
  have S1 := Lib.hid hs1
  have S2 := Lib.hid hs2
  clear hs1 hs2 hcv hc1 hf1 hlen hnb hne hd HCell HCC HC he hl1 hl2
  go_wp2_with fail
  refine (S1.out _).mono ?_
  rintro e w3 ⟨rfl, rfl⟩
  go_wp2_with fail
  refine (S2.out _).mono ?_
  rintro e w4 ⟨rfl, rfl⟩
  go_wp2_with fail
  refine (S2.out _).mono ?_
  rintro e w4 ⟨rfl, rfl⟩
  go_wp2_with fail
  refine (S2.out _).mono ?_
  rintro e w4 ⟨rfl, rfl⟩
  go_wp2_with fail
  refine (awake_any _).mono ?_
  rintro e w5 ⟨rfl, hb5⟩
  go_wp2
  go_ret
  exact ⟨rfl, hB2.trans (hb5.mono hB2.size)⟩
end Go.Proofs.Ytpjcaanlagibpaa

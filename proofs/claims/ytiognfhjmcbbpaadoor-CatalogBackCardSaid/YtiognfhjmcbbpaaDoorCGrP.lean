import Derived.Test.YtiognfhjmcbbpaaDoorCAwk
namespace Go.Proofs.YtiognfhjmcbbpaaDoor
open Go.RowKit
set_option linter.unusedSimpArgs false
set_option linter.unusedVariables false

/-! ## CatalogGrows: what is to be expected, and Mod -/

theorem tab_facts : ∀ k : Fin 23, 0 ≤ (algRow k.val).2.2 ∧ (algRow k.val).2.2 ≤ 256 ∧ ((k.val = 9 ∨ (13 ≤ k.val ∧ k.val ≤ 17)) → (algRow k.val).2.2 = 0) ∧ (1 ≤ k.val → 0 < (algRow k.val).1.size) := by decide +kernel
theorem modF_grows (p q : Int) (h : p ≤ q) : modF p = 0 ∨ modF q = 0 ∨ modF p ≤ modF q := by
  unfold modF
  repeat' split
  all_goals omega
theorem modF_range (p : Int) : 0 ≤ modF p ∧ modF p ≤ 256 := by
  unfold modF
  repeat' split
  all_goals omega
theorem fixF_grows (a p q : Int) (h : p ≤ q) : fixF a p = 0 ∨ fixF a q = 0 ∨ fixF a p ≤ fixF a q := by
  unfold fixF
  repeat' split
  all_goals omega
theorem fixF_range (a p : Int) : 0 ≤ fixF a p ∧ fixF a p ≤ 256 := by
  unfold fixF
  repeat' split
  all_goals omega
theorem fixF_zero (a p : Int) (h : ¬ (a = 9 ∨ (13 ≤ a ∧ a ≤ 17))) : fixF a p = 0 := by
  unfold fixF
  repeat' split
  all_goals omega
theorem str_grows (x p q : Int) (hx : 1 ≤ x ∧ x ≤ 22) (h : p ≤ q) : strF x p = 0 ∨ strF x q = 0 ∨ strF x p ≤ strF x q := by
  unfold strF
  by_cases c1 : x = 5 ∨ x = 6 ∨ x = 10 ∨ x = 11
  · rw [if_pos c1, if_pos c1]; exact modF_grows p q h
  rw [if_neg c1, if_neg c1]
  by_cases c2 : x = 7 ∨ x = 12
  · rw [if_pos c2, if_pos c2]
    repeat' split
    all_goals omega
  rw [if_neg c2, if_neg c2]
  have ht := tab_facts ⟨x.toNat, by omega⟩
  simp only at ht
  by_cases c3 : x = 9 ∨ (13 ≤ x ∧ x ≤ 17)
  · have hz := ht.2.2.1 (by omega)
    rw [hz]
    by_cases cp : p = 0
    · left; rw [if_pos ⟨hx, cp⟩]
    · rw [if_neg (fun e => cp e.2)]
      by_cases cq : q = 0
      · right; left; rw [if_pos ⟨hx, cq⟩]
      · rw [if_neg (fun e => cq e.2)]; exact fixF_grows x p q h
  · rw [fixF_zero x p c3, fixF_zero x q c3]
    repeat' split
    all_goals omega
theorem str_range (x p : Int) (hx : 1 ≤ x ∧ x ≤ 22) : 0 ≤ strF x p ∧ strF x p ≤ 16384 := by
  unfold strF
  have ht := tab_facts ⟨x.toNat, by omega⟩
  simp only at ht
  have h1 := modF_range p
  have h2 := fixF_range x p
  repeat' split
  all_goals omega
theorem str_range5 (x p : Int) (hx : 1 ≤ x ∧ x ≤ 22) : 0 ≤ strF x p ∧ strF x p ≤ 512 := by
  unfold strF
  have ht := tab_facts ⟨x.toNat, by omega⟩
  simp only at ht
  have h1 := modF_range p
  have h2 := fixF_range x p
  repeat' split
  all_goals omega
theorem text_empty (x p : Int) (hx : 1 ≤ x ∧ x ≤ 22) : ((textF x p).toList == []) = !decide (0 < strF x p) := by
  unfold textF
  by_cases h : 0 < strF x p
  · rw [if_pos h, decide_eq_true h]
    have hsz : ∀ b : ByteArray, 0 < b.size → (b.toList == []) = !true := by
      intro b hb
      rw [show ([] : List UInt8) = (⟨#[]⟩ : ByteArray).toList from by decide +kernel, ← beq_toListBytes]
      refine bytes_ne (fun e => ?_)
      rw [e] at hb
      exact absurd hb (by decide)
    have ht := tab_facts ⟨x.toNat, by omega⟩
    simp only at ht
    refine hsz _ ?_
    split
    · unfold nameF
      rw [if_pos hx]
      exact ht.2.2.2 (by omega)
    · unfold dashed
      rw [ByteArray.size_append, ByteArray.size_append]
      have : 0 < dash.size := by decide
      omega
  · rw [if_neg h, decide_eq_false h]; decide +kernel
theorem tmod_emod (n k : Int) : n.tmod k % k = n % k := by
  have h4 := Int.mul_tdiv_add_tmod n k
  have h5 : n = n.tmod k + k * n.tdiv k := by omega
  conv => rhs; rw [h5]
  rw [Int.add_mul_emod_self_left]
theorem tmod_range (n k : Int) (hk : 0 < k) : -k < n.tmod k ∧ n.tmod k < k := by
  have h2 := Int.tmod_lt_of_pos n hk
  have h3 := Int.tmod_lt_of_pos (-n) hk
  rw [Int.neg_tmod] at h3
  omega
theorem mod_any (n k : Int) (w : World) (hk : 0 < k) (hk2 : k < 1000000000) :
    Calls Tryd.prog 27 #[.int .i64 n, .int .i64 k] w fun e w' => e = .returned (.int .i64 (n % k)) ∧ w = w' := by
  have hr := tmod_range n k hk
  have he := Lib.hid (tmod_emod n k)
  have h1 : ¬ k < 1 := by omega
  have h2 : ¬ k = 0 := by omega
  obtain ⟨hr1, hr2⟩ := hr
  go_enter Tryd.func27, Tryd.ntmps27
  go_wp2
  go_ret
  exact ⟨congrArg (fun x => Ending.returned (.int .i64 x)) he.out, rfl⟩
end Go.Proofs.YtiognfhjmcbbpaaDoor

import Derived.Test.YtiognfhjmcbbpaaDoorCE1
namespace Go.Proofs.YtiognfhjmcbbpaaDoor.Ev
open Go.RowKit
set_option linter.unusedSimpArgs false
set_option linter.unusedVariables false

/-! ## From what a row lists to readings, and the laws as calls -/

theorem sui_get (i : Nat) (h : i < 187) : suiCells[i]? = (suCs (i / 11))[i % 11]? := by
  have h1 := sui_take (i / 11) (by omega)
  have h2 := congrArg (fun l => l[i % 11]?) h1
  simp only [List.getElem?_take, List.getElem?_drop] at h2
  rw [if_pos (by omega), show i / 11 * 11 + i % 11 = i by omega] at h2
  exact h2
theorem alg_size : algCells.length = 69 := by kernel_rfl
theorem alg_get (i : Nat) (h : i < 69) : algCells[i]? = (alCs (i / 3))[i % 3]? := by
  have h1 := alg_take (i / 3) (by omega)
  have h2 := congrArg (fun l => l[i % 3]?) h1
  simp only [List.getElem?_take, List.getElem?_drop] at h2
  rw [if_pos (by omega), show i / 3 * 3 + i % 3 = i by omega] at h2
  exact h2
theorem suCs_vals (n : Nat) : suCs n = (suRow n).vals.map .v := rfl
theorem vals_one {n : Nat} {j : Nat} {v : Value} (h : (suRow n).vals[j]? = some v) : v.oneCell' = true := by
  have := List.mem_of_getElem? h
  unfold SuR.vals at this
  simp only [List.mem_cons, List.not_mem_nil, or_false] at this
  rcases this with rfl | rfl | rfl | rfl | rfl | rfl | rfl | rfl | rfl | rfl | rfl <;> rfl
theorem pow_size {w : World} (h : Go.Proofs.YtiognfhjmcbbpaaDoor.Env w) : 6 ≤ w.heap.size := by
  have h1 := h.pow
  unfold Lib.TabIs at h1
  unfold World.var? at h1
  rw [gpow] at h1
  simp only [Option.bind_some] at h1
  by_cases h2 : 5 < w.heap.size
  · exact h2
  · rw [Array.getElem?_eq_none (by omega)] at h1; simp at h1
abbrev allM (w : World) : Mem := Mem.entry (fun _ _ => True) (fun _ _ => True) w
theorem all_S {w : World} {b o : Nat} (h : b < w.heap.size) : (allM w).S b o := .inl ⟨h, trivial⟩
theorem gok_of {w : World} (h : Inv w) : GOK GC (allM w) := by
  refine ⟨fun g cs hg => ?_, h, pow_size h.env⟩
  have hz := pow_size h.env
  simp only [GC] at hg
  split at hg
  · rename_i e
    subst e
    cases hg
    refine ⟨_, 0, rfl, fun i c hi => ?_⟩
    have hlt : i < 69 := by have := (List.getElem?_eq_some_iff.1 hi).1; rw [alg_size] at this; exact this
    rw [alg_get i hlt] at hi
    obtain ⟨c1, c2, c3⟩ := h.env.alg (i / 3) (by omega)
    refine ⟨.inl (all_S (Nat.lt_of_lt_of_le (by decide) hz)), ?_⟩
    rw [Nat.zero_add]
    have hm : i % 3 < 3 := Nat.mod_lt _ (by decide)
    have he : i = i / 3 * 3 + i % 3 := by omega
    generalize i / 3 = q at *
    generalize i % 3 = p at *
    subst he
    match p, hm with
    | 0, _ => cases hi; exact ⟨_, c1, .v _ rfl⟩
    | 1, _ => cases hi; exact ⟨_, c2, .v _ rfl⟩
    | 2, _ => cases hi; exact ⟨_, c3, .v _ rfl⟩
  · split at hg
    · rename_i e
      subst e
      cases hg
      refine ⟨_, 0, rfl, fun i c hi => ?_⟩
      have hlt : i < 187 := by have := (List.getElem?_eq_some_iff.1 hi).1; rw [sui_size] at this; exact this
      rw [sui_get i hlt, suCs_vals, List.getElem?_map, Option.map_eq_some_iff] at hi
      obtain ⟨v, hv, rfl⟩ := hi
      refine ⟨.inl (all_S (Nat.lt_of_lt_of_le (by decide) hz)), v, ?_, .v _ (vals_one hv)⟩
      have := h.su (i / 11) (by omega) (i % 11) v hv
      rw [show i / 11 * 11 + i % 11 = i by omega] at this
      rw [Nat.zero_add]
      exact this
    · cases hg
end Go.Proofs.YtiognfhjmcbbpaaDoor.Ev

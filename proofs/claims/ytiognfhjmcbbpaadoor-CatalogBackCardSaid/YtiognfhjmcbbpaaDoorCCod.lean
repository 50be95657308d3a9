import Derived.Test.YtiognfhjmcbbpaaDoorCSui
namespace Go.Proofs.YtiognfhjmcbbpaaDoor
open Go.RowKit
set_option linter.unusedSimpArgs false
set_option linter.unusedVariables false

/-! ## Code -/

theorem flatN (k : Nat) (hk : 0 < k) (f : Nat → List Value) (hf : ∀ i, (f i).length = k) : ∀ n j, (((List.range n).flatMap f).length = n * k) ∧ (j < n * k → ((List.range n).flatMap f)[j]? = (f (j / k))[j % k]?)
  | 0, j => ⟨by simp, fun h => by omega⟩
  | n + 1, j => by
    obtain ⟨ih1, ih2⟩ := flatN k hk f hf n j
    rw [List.range_succ, List.flatMap_append]
    have e : [n].flatMap f = f n := by simp
    rw [e]
    refine ⟨by rw [List.length_append, ih1, hf, Nat.succ_mul], fun h => ?_⟩
    by_cases hj : j < n * k
    · rw [List.getElem?_append_left (by omega)]
      exact ih2 hj
    · rw [Nat.succ_mul] at h
      have h1 : j = k * n + (j - n * k) := by rw [Nat.mul_comm k n]; omega
      have h2 : j / k = n := by rw [h1, Nat.mul_add_div hk, Nat.div_eq_of_lt (by omega)]; omega
      have h3 : j % k = j - n * k := by
        conv => lhs; rw [h1]
        rw [Nat.mul_add_mod, Nat.mod_eq_of_lt (by omega)]
      rw [List.getElem?_append_right (by omega), ih1, h2, h3]
def suCells : List Value := (List.range 17).flatMap (fun i => (suRow i).vals)
theorem suCells_len : suCells.length = 187 := (flatN 11 (by decide) (fun i => (suRow i).vals) (fun _ => rfl) 17 0).1
theorem suCells_get (i k : Nat) (hi : i < 17) (hk : k < 11) : suCells[i * 11 + k]? = (suRow i).vals[k]? := by
  have := (flatN 11 (by decide) (fun i => (suRow i).vals) (fun _ => rfl) 17 (i * 11 + k)).2 (by omega)
  rw [show (i * 11 + k) / 11 = i from by omega, show (i * 11 + k) % 11 = k from by omega] at this
  exact this
theorem SuAt.range {w : World} (h : SuAt w) : w.rangeAt 1 0 suCells := fun j v hv => by
  have hj : j < 187 := by have := (List.getElem?_eq_some_iff.1 hv).1; rw [suCells_len] at this; exact this
  rw [Nat.zero_add]
  have e : j = j / 11 * 11 + j % 11 := by omega
  rw [e, suCells_get _ _ (by omega) (by omega)] at hv
  have := h (j / 11) (by omega) (j % 11) v hv
  rwa [← e] at this
theorem undSA : Tryd.prog.underlying 70 = some (.array 17 69) := by kernel_rfl
theorem infoSA : (Tryd.prog.info? 70).map (·.size) = some 187 := by kernel_rfl
theorem su_extract (i : Nat) (hi : i < 17) : suCells.toArray.extract (i * 11) (i * 11 + 11) = (suRow i).vals.toArray := by
  apply Array.ext_getElem?
  intro j
  rw [Array.getElem?_extract]
  have hsz : suCells.toArray.size = 187 := by rw [List.size_toArray, suCells_len]
  rw [hsz]
  by_cases hj : j < 11
  · rw [if_pos (by omega), List.getElem?_toArray, suCells_get i j hi hj, List.getElem?_toArray]
  · rw [if_neg (by omega), Array.getElem?_eq_none (by simp [SuR.vals]; omega)]
theorem run_index_su (i : Nat) (hi : i < 17) (w : World) : (Instr.index 70 (.agg suCells.toArray) (.int .i64 (i : Int))).run Tryd.prog w = .ok (.agg (suRow i).vals.toArray) w := by
  have hagg : ∀ w, (isAgg 69).run Tryd.prog w = .ok true w := fun w => by
    unfold isAgg
    rw [Sem.run_bind, run_underlying Tryd.underlying69 w]
    rfl
  have hsz : ∀ w, (sizeOf 69).run Tryd.prog w = .ok 11 w := fun w => by
    have hi := infoS
    cases hq : Tryd.prog.info? 69 with
    | none => simp [hq] at hi
    | some i =>
      have : i.size = 11 := by simpa [hq] using hi
      simp [sizeOf, typeInfo, hq, this]
  have hin : 0 ≤ (i : Int) ∧ (i : Int) < ((17 : Nat) : Int) := by omega
  rw [← su_extract i hi]
  simp [Instr.index, run_underlying undSA, asIntOf, hin.1, hin.2, part, hagg, hsz, hi]
end Go.Proofs.YtiognfhjmcbbpaaDoor

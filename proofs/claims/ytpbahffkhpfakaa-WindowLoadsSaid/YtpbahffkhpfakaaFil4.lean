import Derived.Test.YtpbahffkhpfakaaFil3
namespace Go.Proofs.Ytpbahffkhpfakaa
open Go.RowKit
set_option linter.unusedSimpArgs false
set_option linter.unusedVariables false

/-! ## Each change counts once -/

/-- how many changes fall on the places before o -/
def ahead (c : Cal) (ps : List (Int × Int)) (o : Nat) : Int := ((ps.filter fun p => decide (slotOf c p < (o : Int))).length : Nat)
theorem ahead_succ (c : Cal) (ps : List (Int × Int)) (o : Nat) : ahead c ps (o + 1) = ahead c ps o + loadN c ps o := by
  unfold ahead loadN
  induction ps with
  | nil => rfl
  | cons p l ih =>
    simp only [List.filter_cons, decide_eq_true_eq]
    by_cases h1 : slotOf c p < (o : Int)
    · rw [if_pos h1, if_pos (by omega), if_neg (by omega)]
      simp only [List.length_cons]
      omega
    · by_cases h2 : slotOf c p = (o : Int)
      · rw [if_neg h1, if_pos (by omega), if_pos h2]
        simp only [List.length_cons]
        omega
      · rw [if_neg h1, if_neg (by omega), if_neg h2]
        exact ih
theorem ahead_le (c : Cal) (ps : List (Int × Int)) (o : Nat) : 0 ≤ ahead c ps o ∧ ahead c ps o ≤ (ps.length : Int) := by
  unfold ahead
  have := List.length_filter_le (fun p => decide (slotOf c p < (o : Int))) ps
  omega
theorem ahead_gap {c : Cal} {ps : List (Int × Int)} {o o' : Nat} (hle : o ≤ o') (h : ∀ p ∈ ps, slotOf c p < (o : Int) ∨ (o' : Int) ≤ slotOf c p) : ahead c ps o' = ahead c ps o := by
  unfold ahead
  congr 2
  refine List.filter_congr fun p hp => ?_
  rcases h p hp with h1 | h1
  · rw [decide_eq_true (by omega), decide_eq_true h1]
  · rw [decide_eq_false (by omega), decide_eq_false (by omega)]
theorem ahead_all {c : Cal} {ps : List (Int × Int)} {o : Nat} (h : ∀ p ∈ ps, slotOf c p < (o : Int)) : ahead c ps o = (ps.length : Int) := by
  unfold ahead
  rw [List.filter_eq_self.2 fun p hp => decide_eq_true (h p hp)]
theorem ahead_zero {c : Cal} {ps : List (Int × Int)} (h : ∀ p ∈ ps, 0 ≤ slotOf c p) : ahead c ps 0 = 0 := by
  unfold ahead
  rw [List.filter_eq_nil_iff.2 fun p hp => by have := h p hp; simp; omega]
  rfl
/-- a change that fits lies in a window, for a team with room -/
theorem Fitting.slot {c : Cal} {ts ds : List Int} (h : Fitting c ts ds) {p : Int × Int} (hp : p ∈ ts.zip ds) : ∃ m t : Nat, m < c.wins.length ∧ t < c.room.length ∧ atF c p.2 = (m : Int) ∧ p.1 = (t : Int) ∧ slotOf c p = ((m * 8 + t : Nat) : Int) := by
  have hok := load_ok h.ok
  obtain ⟨k, hk, rfl⟩ := List.getElem_of_mem hp
  rw [List.length_zip] at hk
  rw [zip_at (by omega) (by omega)]
  have hr := hok.2.2.1 k (by omega)
  have hm := hok.2.2.2 k (by omega) (by omega)
  rcases at_spec c ts[k] ds[k] with ⟨_, e⟩ | ⟨m, hmm, ea, _⟩
  · rw [e] at hm; cases hm
  · exact ⟨m, ts[k].toNat, hmm, by omega, ea, by show ts[k] = _; omega, by unfold slotOf; simp only; rw [ea]; omega⟩
theorem Fitting.ahead_row {c : Cal} {ts ds : List Int} (h : Fitting c ts ds) (i : Nat) : ahead c (ts.zip ds) ((i + 1) * 8) = ahead c (ts.zip ds) (i * 8 + c.room.length) := by
  have hr := (ok0_of (loadE_zero h.ok)).room
  refine ahead_gap (by omega) fun p hp => ?_
  obtain ⟨m, t, h1, h2, _, _, e⟩ := h.slot hp
  rw [e]
  omega
theorem Fitting.ahead_end {c : Cal} {ts ds : List Int} (h : Fitting c ts ds) : ahead c (ts.zip ds) (c.wins.length * 8) = (ts.length : Int) := by
  have hr := (ok0_of (loadE_zero h.ok)).room
  have hl := (load_ok h.ok).1
  rw [ahead_all fun p hp => by
    obtain ⟨m, t, h1, h2, _, _, e⟩ := h.slot hp
    rw [e]
    omega]
  rw [List.length_zip]
  omega
theorem Fitting.ahead_start {c : Cal} {ts ds : List Int} (h : Fitting c ts ds) : ahead c (ts.zip ds) 0 = 0 := ahead_zero fun p hp => by
  obtain ⟨m, t, h1, h2, _, _, e⟩ := h.slot hp
  rw [e]
  omega
/-- one change more that is looked at -/
theorem Fitting.want {c : Cal} {ts ds : List Int} (h : Fitting c ts ds) {k : Nat} (hk : k < ts.length) (hk2 : k < ds.length) (i t : Nat) (ht : t < c.room.length) :
    loadN c ((ts.zip ds).take (k + 1)) (i * 8 + t) = if atF c ds[k] = (i : Int) ∧ ts[k] = (t : Int) then loadN c ((ts.zip ds).take k) (i * 8 + t) + 1 else loadN c ((ts.zip ds).take k) (i * 8 + t) := by
  have hr := (ok0_of (loadE_zero h.ok)).room
  have hp : (ts[k], ds[k]) ∈ ts.zip ds := by
    rw [← zip_at hk hk2]
    exact List.getElem_mem _
  obtain ⟨m, t', h1, h2, ea, et, e⟩ := h.slot hp
  simp only at ea et
  rw [zip_take_snoc hk hk2, loadN_snoc, e]
  by_cases hc : atF c ds[k] = (i : Int) ∧ ts[k] = (t : Int)
  · rw [if_pos hc, if_pos (by omega)]
  · rw [if_neg hc, if_neg (by omega)]
end Go.Proofs.Ytpbahffkhpfakaa

import Derived.Test.YtpbahffkhpfakaaDice
import Derived.OpenShut
namespace Go.Proofs.Ytpbahffkhpfakaa
open Go.RowKit Go.ChangeShapes
set_option linter.unusedSimpArgs false
set_option linter.unusedVariables false

/-- what a law is told of its list of numbers, as a row for the dice -/
theorem row_at {w : World} {a : Option Addr} {len cap : Nat} {zs : List Int}
    (w0 : (a = none ∧ len = 0 ∧ cap = 0 ∧ zs = []) ∨
      ∃ x, a = some x ∧ len ≤ cap ∧ cap ≤ maxLen ∧ zs.length = cap ∧ (∀ i, i < zs.length → w.cell? (x.add i) = some (.int .i64 (zs.getD i 0))) ∧ ∀ n ∈ zs, (Lit.int .i64 n).wf = true) :
    RowAt w w.heap.size a len ∧ (len : Int) ≤ 9223372036854775807 := by
  rcases w0 with ⟨_, h, _, _⟩ | ⟨x, rfl, hl, hm, hz, hc, hwf⟩
  · exact ⟨.inl h, by omega⟩
  refine ⟨?_, by unfold maxLen at hm; omega⟩
  rcases Nat.eq_zero_or_pos len with h | h
  · exact .inl h
  refine .inr ⟨x.block, x.off, ?_⟩
  have h0 := hc 0 (by omega)
  have e0 : x.add 0 = x := rfl
  rw [e0] at h0
  have hs : x.spot = none := by
    unfold World.cell? at h0
    split at h0
    · by_cases h1 : x.spot.isSome
      · rw [if_pos h1] at h0; cases h0
      · cases hx : x.spot with
        | none => rfl
        | some _ => rw [hx] at h1; simp at h1
    · cases h0
  have hb : x.block < w.heap.size := by
    unfold World.cell? at h0
    by_cases h1 : x.block < w.heap.size
    · exact h1
    · rw [Array.getElem?_eq_none (by omega)] at h0; cases h0
  refine ⟨?_, hb, ?_⟩
  · obtain ⟨b, o, s⟩ := x
    simp only at hs
    rw [hs]
  · intro i hi
    have hci := hc i (by omega)
    have ea : x.add i = ⟨x.block, x.off + i, none⟩ := by
      unfold Addr.add
      by_cases h1 : i = 0
      · rw [if_pos h1, h1]
        obtain ⟨b, o, s⟩ := x
        simp only at hs
        rw [hs]; rfl
      · rw [if_neg h1]
    rw [ea] at hci
    refine ⟨_, ?_, hci⟩
    exact bounds_i64 (hwf _ (by rw [List.getD_eq_getElem?_getD, List.getElem?_eq_getElem (by omega)]; exact List.getElem_mem _))
end Go.Proofs.Ytpbahffkhpfakaa

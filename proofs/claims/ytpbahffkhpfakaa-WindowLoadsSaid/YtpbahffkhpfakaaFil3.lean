import Derived.Test.YtpbahffkhpfakaaFil2
namespace Go.Proofs.Ytpbahffkhpfakaa
open Go.RowKit
set_option linter.unusedSimpArgs false
set_option linter.unusedVariables false

/-! ## The earliest day is the first on which one more change fits -/

theorem suitB_at {c : Cal} {f : Nat → Int} {t j : Nat} (hj : j < c.wins.length) (ht : t < c.room.length) : suitB c f t j = true ↔ (c.wins[j].ts.any fun y => decide ((t : Int) = y)) = true ∧ f (j * 8 + t) < c.room[t] := by
  unfold suitB
  rw [List.getElem?_eq_getElem hj, List.getElem?_eq_getElem ht]
  simp only [Option.map_some, Option.getD_some, Bool.and_eq_true, decide_eq_true_eq]
theorem Fitting.of_fits {c : Cal} {ts ds : List Int} (h : fitsE c ts ds = 0) : Fitting c ts ds := by
  unfold fitsE at h
  by_cases h1 : loadE c ts ds [] = 0
  · refine ⟨h1, ?_⟩
    rw [if_neg (by rw [h1]; simp)] at h
    cases h2 : fullB c (loadN c (ts.zip ds)) with
    | false => rfl
    | true => rw [h2, if_pos rfl] at h; cases h
  · rw [if_pos h1] at h
    exact absurd h h1
theorem Fitting.more_iff {c : Cal} {ts ds : List Int} (h : Fitting c ts ds) {t : Nat} (d : Int) (hl : ts.length < 24) (ht : t < c.room.length) :
    fitsE c (ts ++ [(t : Int)]) (ds ++ [d]) = 0 ↔ ∃ j, ∃ hj : j < c.wins.length, c.wins[j].frm ≤ d ∧ d < c.wins[j].til ∧ suitB c (loadN c (ts.zip ds)) t j = true := by
  constructor
  · intro h1
    have h2 := Fitting.of_fits h1
    have hlen := (load_ok h.ok).1
    have hm := (load_ok h2.ok).2.2.2 ts.length (by simp) (by simp; omega)
    rw [List.getElem_append_right (Nat.le_refl _), List.getElem_append_right (by omega)] at hm
    simp only [Nat.sub_self, List.getElem_cons_zero, hlen] at hm
    rcases at_spec c t d with ⟨_, e⟩ | ⟨m, hmm, ea, h3, h4, e⟩
    · rw [e] at hm; cases hm
    · refine ⟨m, hmm, h3, h4, (suitB_at hmm ht).2 ⟨by rw [← e]; exact hm, ?_⟩⟩
      have h5 := ok0_of (loadE_zero h.ok)
      have h6 := h2.le (i := m) (by have := h5.wins; omega) ht
      have hz : (ts ++ [(t : Int)]).zip (ds ++ [d]) = ts.zip ds ++ [((t : Int), d)] := by rw [List.zip_append hlen]; rfl
      have h8 := h5.room
      have hs : slotOf c ((t : Int), d) = ((m * 8 + t : Nat) : Int) := by unfold slotOf; rw [ea]; simp only; omega
      rw [hz, loadN_snoc, hs, if_pos rfl] at h6
      omega
  · rintro ⟨j, hj, h1, h2, h3⟩
    have h4 := (suitB_at hj ht).1 h3
    exact (h.snoc hl ht hj h1 h2 h4.1 h4.2).fits
theorem earl_spec {c : Cal} {n : Nat} {ts ds : List Int} (h : Drawn c n) (hF : Fitting c ts ds) {t : Nat} (ht : t < c.room.length) (hl : ts.length < 24) (d : Int) (hd : d < 260) :
    ((earlD c ts ds t d).2 = true → d ≤ (earlD c ts ds t d).1 ∧ (earlD c ts ds t d).1 < 260 ∧ fitsE c (ts ++ [(t : Int)]) (ds ++ [(earlD c ts ds t d).1]) = 0 ∧ ∀ k, d ≤ k → k < (earlD c ts ds t d).1 → fitsE c (ts ++ [(t : Int)]) (ds ++ [k]) ≠ 0) ∧
    ((earlD c ts ds t d).2 = false → ∀ k, d ≤ k → fitsE c (ts ++ [(t : Int)]) (ds ++ [k]) ≠ 0) := by
  obtain ⟨fm, hfm, hw⟩ := h.wins
  have hs := sorted (fun x hx => (hw.days x hx).2.1) hw.apart
  rw [(hF.early ht d).2]
  rcases firstD_cases d (suitB c (loadN c (ts.zip ds)) t) c.wins 0 with ⟨e, hn⟩ | ⟨j, hj, e, ⟨h1, h1q⟩, h2⟩
  · rw [e]
    refine ⟨(fun h => by cases h), fun _ k hk hf => ?_⟩
    obtain ⟨m, hm, h3, h4, h5⟩ := (hF.more_iff k hl ht).1 hf
    exact hn m hm ⟨by omega, by rw [Nat.zero_add]; exact h5⟩
  · rw [e]
    rw [Nat.zero_add] at h1q
    have hdj := hw.days c.wins[j] (List.getElem_mem hj)
    refine ⟨fun _ => ⟨?_, ?_, ?_, fun k hk hk2 hf => ?_⟩, fun h => by cases h⟩
    · show d ≤ max d _
      omega
    · show max d c.wins[j].frm < 260
      omega
    · show fitsE c (ts ++ [(t : Int)]) (ds ++ [max d c.wins[j].frm]) = 0
      exact (hF.more_iff _ hl ht).2 ⟨j, hj, by omega, h1, h1q⟩
    · have hk2' : k < max d c.wins[j].frm := hk2
      obtain ⟨m, hm, h3, h4, h5⟩ := (hF.more_iff k hl ht).1 hf
      by_cases e2 : m < j
      · exact h2 m e2 ⟨by omega, by rw [Nat.zero_add]; exact h5⟩
      · by_cases e1 : m = j
        · subst e1; omega
        · have := hs m j hm (by omega)
          omega

section
variable {W0 w w' : World} {a b c d v : Value} {la lb lc ld l : List Int}
theorem Reg4.qA (h : Reg4 W0 w a la b lb c lc d ld) (y : Int) : Reg4 W0 (w.alloc (.cells #[.int .i64 y] 3)) a la (.slice (some ⟨w.heap.size, 0, none⟩) 1 1) [y] c lc d ld := (h.swap12.lit y w.heap.size rfl).swap12
theorem Reg4.qB (h : Reg4 W0 w a la b lb c lc d ld) (z : Int) : Reg4 W0 (w.alloc (.cells #[.int .i64 z] 3)) a la b lb c lc (.slice (some ⟨w.heap.size, 0, none⟩) 1 1) [z] := (h.swap14.lit z w.heap.size rfl).swap14
theorem Reg4.qAB (h : Reg4 W0 w a la b lb c lc d ld) (y z : Int) : Reg4 W0 ((w.alloc (.cells #[.int .i64 y] 3)).alloc (.cells #[.int .i64 z] 3)) a la (.slice (some ⟨w.heap.size, 0, none⟩) 1 1) [y] c lc (.slice (some ⟨w.heap.size + 1, 0, none⟩) 1 1) [z] := ((h.qA y).swap14.lit z (w.heap.size + 1) (by simp)).swap14
theorem Reg4.qBA (h : Reg4 W0 w a la b lb c lc d ld) (y z : Int) : Reg4 W0 ((w.alloc (.cells #[.int .i64 z] 3)).alloc (.cells #[.int .i64 y] 3)) a la (.slice (some ⟨w.heap.size + 1, 0, none⟩) 1 1) [y] c lc (.slice (some ⟨w.heap.size, 0, none⟩) 1 1) [z] := ((h.qB z).swap12.lit y (w.heap.size + 1) (by simp)).swap12
end
end Go.Proofs.Ytpbahffkhpfakaa

import Derived.Test.YtpbahffkhpfakaaREr
import Derived.Test.YtpbahffkhpfakaaWNx3
import Derived.Test.YtpbahffkhpfakaaWFu1
namespace Go.Proofs.Ytpbahffkhpfakaa
open Go.RowKit
set_option linter.unusedSimpArgs false
set_option linter.unusedVariables false

/-! ## Changes that fit, drawn one after the other -/

structure Fitting (c : Cal) (ts ds : List Int) : Prop where
  ok : loadE c ts ds [] = 0
  room : fullB c (loadN c (ts.zip ds)) = false
theorem Fitting.le {c : Cal} {ts ds : List Int} (h : Fitting c ts ds) {i t : Nat} (hi : i < 32) (ht : t < c.room.length) : loadN c (ts.zip ds) (i * 8 + t) ≤ c.room[t] := by
  by_cases hc : loadN c (ts.zip ds) (i * 8 + t) ≤ c.room[t]
  · exact hc
  · have := fullB_yes (c := c) (f := loadN c (ts.zip ds)) hi ht (by omega)
    rw [h.room] at this
    cases this
theorem Fitting.fits {c : Cal} {ts ds : List Int} (h : Fitting c ts ds) : fitsE c ts ds = 0 := by
  unfold fitsE
  rw [h.ok, if_neg (by simp), h.room]
  rfl
theorem fitting_nil {c : Cal} {n : Nat} (h : Drawn c n) : Fitting c [] [] := by
  have hc := drawn_chk h
  refine ⟨?_, ?_⟩
  · unfold loadE
    rw [if_neg (by rw [hc]; simp), if_neg (by simp), if_neg (by simp), if_neg (by simp [rangeB]), if_neg (by simp [mayB])]
  · refine fullB_no fun i _ t ht => ?_
    have := (room_ok hc t ht).1
    simpa [loadN] using this
theorem at_in {c : Cal} {n : Int} (h : checkF c n = 0) (d : Int) {i : Nat} (hi : i < c.wins.length) (h1 : c.wins[i].frm ≤ d) (h2 : d < c.wins[i].til) : atF c d = (i : Int) := by
  have hs := sorted (chk_sorted h).1 (chk_sorted h).2
  rcases at_spec c 0 d with ⟨e, _⟩ | ⟨m, hm, e, h3, h4, _⟩
  · exfalso
    unfold atF at e
    rcases firstI_cases (hasB d) c.wins with ⟨m, hm, e2, _, _⟩ | ⟨_, hno⟩
    · omega
    · have := hno i hi
      simp [hasB] at this
      omega
  · rw [e]
    by_cases e1 : m = i
    · rw [e1]
    · exfalso
      by_cases e2 : m < i
      · have := hs i m hi e2; omega
      · have := hs m i hm (by omega); omega
/-- one change more, in a window, for a team of it -/
theorem Fitting.snoc {c : Cal} {ts ds : List Int} (h : Fitting c ts ds) {t j : Nat} {d : Int} (hl : ts.length < 24) (ht : t < c.room.length) (hj : j < c.wins.length) (h1 : c.wins[j].frm ≤ d) (h2 : d < c.wins[j].til) (h3 : (c.wins[j].ts.any fun y => decide ((t : Int) = y)) = true) (h4 : loadN c (ts.zip ds) (j * 8 + t) < c.room[t]) : Fitting c (ts ++ [(t : Int)]) (ds ++ [d]) := by
  have hok := load_ok h.ok
  have hchk := loadE_zero h.ok
  have hr8 := (ok0_of hchk).room
  have hm : mayF c t d = true := by rw [may_in hchk t d hj h1 h2]; exact h3
  have ha := at_in hchk d hj h1 h2
  have hz : (ts ++ [(t : Int)]).zip (ds ++ [d]) = ts.zip ds ++ [((t : Int), d)] := by rw [List.zip_append hok.1]; rfl
  have hs : slotOf c ((t : Int), d) = ((j * 8 + t : Nat) : Int) := by unfold slotOf; rw [ha]; simp only; omega
  refine ⟨?_, ?_⟩
  · unfold loadE
    rw [if_neg (by rw [hchk]; simp), if_neg (by simp [hok.1]), if_neg (by simp; omega), if_neg ?_, if_neg ?_]
    · rw [hz]
      unfold mayB
      rw [List.all_append]
      have : ((ts.zip ds).all fun p => mayF c p.1 p.2) = true := all_yes fun k hk => by
        rw [List.length_zip] at hk
        rw [zip_at (by omega) (by omega)]
        exact hok.2.2.2 k (by omega) (by omega)
      simp [this, hm]
    · unfold rangeB
      rw [List.append_nil, List.all_append]
      have : (ts.all fun n => inB n 0 ((c.room.length : Int) - 1)) = true := all_yes fun k hk => by
        have := hok.2.2.1 k hk
        unfold inB
        simp
        omega
      have h5 : inB (t : Int) 0 ((c.room.length : Int) - 1) = true := by unfold inB; simp; omega
      simp [this, h5]
  · rw [hz]
    refine fullB_no fun i hi t' ht' => ?_
    rw [loadN_snoc, hs]
    have hle := h.le hi ht'
    by_cases e : ((j * 8 + t : Nat) : Int) = ((i * 8 + t' : Nat) : Int)
    · rw [if_pos e]
      have e1 : i = j := by omega
      have e2 : t' = t := by omega
      subst e1 e2
      omega
    · rw [if_neg e]
      exact hle
theorem Fitting.early {c : Cal} {ts ds : List Int} (h : Fitting c ts ds) {t : Nat} (ht : t < c.room.length) (d : Int) : earlE c ts ds t = 0 ∧ earlD c ts ds t d = firstD d (suitB c (loadN c (ts.zip ds)) t) 0 c.wins := by
  have e : earlE c ts ds t = 0 := by
    rw [earlE_in ⟨by omega, by omega⟩]
    exact h.fits
  refine ⟨e, ?_⟩
  unfold earlD
  rw [e, if_neg (by simp)]
  simp
theorem Fitting.next {c : Cal} {ts ds : List Int} (h : Fitting c ts ds) {t : Nat} (ht : t < c.room.length) (d : Int) (hl : ts.length < 24) (h1 : (earlD c ts ds t d).2 = true) : Fitting c (ts ++ [(t : Int)]) (ds ++ [(earlD c ts ds t d).1]) := by
  rw [(h.early ht d).2] at h1 ⊢
  rcases firstD_cases d (suitB c (loadN c (ts.zip ds)) t) c.wins 0 with ⟨e, _⟩ | ⟨j, hj, e, ⟨h2, h3⟩, _⟩
  · rw [e] at h1; cases h1
  · rw [e]
    rw [Nat.zero_add] at h3
    unfold suitB at h3
    rw [List.getElem?_eq_getElem hj, List.getElem?_eq_getElem ht] at h3
    simp only [Option.map_some, Option.getD_some, Bool.and_eq_true, decide_eq_true_eq] at h3
    exact h.snoc hl ht hj (by show _ ≤ max d _; omega) h2 h3.1 h3.2
end Go.Proofs.Ytpbahffkhpfakaa

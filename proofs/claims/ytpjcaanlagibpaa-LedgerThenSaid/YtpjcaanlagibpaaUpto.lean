import Derived.Test.YtpjcaanlagibpaaUntilN
namespace Go.Proofs.Ytpjcaanlagibpaa
open Go.RowKit
set_option linter.unusedSimpArgs false
set_option linter.unusedVariables false

/-! ## The decisions up to a day, as a list -/

def upTo (ds : List Dec) (day : Int) : List Dec := ds.filter fun d => decide (d.day ≤ day)

theorem upTo_of_iff {ds : List Dec} {day : Int} {n : Nat} (hn : n ≤ ds.length) (h : ∀ i (h : i < ds.length), ds[i].day ≤ day ↔ i < n) : ds.take n = upTo ds day := by
  have e : ds.filter (fun d => decide (d.day ≤ day)) = (ds.take n ++ ds.drop n).filter (fun d => decide (d.day ≤ day)) := by rw [List.take_append_drop]
  unfold upTo
  rw [e, List.filter_append]
  have e1 : (ds.take n).filter (fun d => decide (d.day ≤ day)) = ds.take n := by
    rw [List.filter_eq_self]
    intro a ha
    obtain ⟨i, hi, rfl⟩ := List.getElem_of_mem ha
    rw [List.getElem_take]
    have hi2 : i < n ∧ i < ds.length := by simp at hi; omega
    simp [(h i hi2.2).2 hi2.1]
  have e2 : (ds.drop n).filter (fun d => decide (d.day ≤ day)) = [] := by
    rw [List.filter_eq_nil_iff]
    intro a ha
    obtain ⟨i, hi, rfl⟩ := List.getElem_of_mem ha
    rw [List.getElem_drop]
    have hi2 : n + i < ds.length := by simp at hi; omega
    have := (h (n + i) hi2)
    simp only [decide_eq_true_eq]
    intro hc
    have := this.1 hc
    omega
  rw [e1, e2, List.append_nil]

theorem upTo_length (ds : List Dec) (day : Int) : (upTo ds day).length ≤ ds.length := List.length_filter_le _ _

set_option maxRecDepth 100000 in
theorem until_any (v : Value) (ds : List Dec) (day : Int) (w : World) (h : SliceDecs w v ds) (hok : OKs ds) (hl : ds.length ≤ 1000) :
    Calls Try.prog 63 #[.agg #[v], .int .i64 day] w fun e w' => ∃ u, e = .returned u ∧ SliceDecs w' u (upTo ds day) ∧ Below w.heap.size w w' := by
  rcases h with ⟨rfl, rfl⟩ | ⟨g, cap, rfl, hg, hcap, hd⟩
  · refine (until_none day w).mono ?_
    rintro e w' ⟨rfl, hb⟩
    exact ⟨_, rfl, .inl ⟨rfl, rfl⟩, hb⟩
  · refine (until_some g cap ds day w hg hd hok hl hcap).mono ?_
    rintro e w' ⟨n, hn, hiff, rfl, hb⟩
    refine ⟨_, rfl, ?_, hb⟩
    rw [← upTo_of_iff hn hiff]
    have hl2 : (ds.take n).length = n := by simp; omega
    refine .inr ⟨g, cap, by rw [hl2], Nat.lt_of_lt_of_le hg hb.size, by omega, ?_⟩
    intro i hi
    rw [List.getElem_take]
    exact (hd.below hg hb) i (by omega)

def hits (k s : Int) (d : Dec) : Bool := decide (d.kind = k) && decide (d.subject = s)
def latestOf (ds : List Dec) (k s : Int) : Option Dec := ds.reverse.find? (hits k s)
end Go.Proofs.Ytpjcaanlagibpaa

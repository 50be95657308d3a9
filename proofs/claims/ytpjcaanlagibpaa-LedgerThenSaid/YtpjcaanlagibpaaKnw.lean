import Derived.Test.YtpjcaanlagibpaaWake
namespace Go.Proofs.Ytpjcaanlagibpaa
open Go.RowKit
set_option linter.unusedSimpArgs false
set_option linter.unusedVariables false

/-! ## What was known, as the last one says -/

theorem exists_cut {ds : List Dec} (hok : OKs ds) (day : Int) : ∀ m, m ≤ ds.length → ∃ n, n ≤ m ∧ ∀ i (h : i < ds.length), i < m → (ds[i].day ≤ day ↔ i < n) := by
  intro m
  induction m with
  | zero => exact fun _ => ⟨0, Nat.le_refl _, fun i h hi => by omega⟩
  | succ m ih =>
    intro hm
    by_cases hd : (ds[m]'(by omega)).day ≤ day
    · refine ⟨m + 1, Nat.le_refl _, fun i h hi => ⟨fun _ => hi, fun _ => ?_⟩⟩
      exact Int.le_trans (hok.days (show i ≤ m by omega) (by omega)) hd
    · obtain ⟨n, hn, h⟩ := ih (by omega)
      refine ⟨n, by omega, fun i hi him => ?_⟩
      rcases Nat.lt_or_ge i m with h1 | h1
      · exact h i hi h1
      · have : i = m := by omega
        subst this
        exact ⟨fun h2 => absurd h2 hd, fun h2 => by omega⟩

theorem upTo_cut {ds : List Dec} (hok : OKs ds) (day : Int) : ∃ n, n ≤ ds.length ∧ upTo ds day = ds.take n ∧ ∀ i (h : i < ds.length), (ds[i].day ≤ day ↔ i < n) := by
  obtain ⟨n, hn, h⟩ := exists_cut hok day ds.length (Nat.le_refl _)
  exact ⟨n, hn, (upTo_of_iff hn (fun i hi => h i hi hi)).symm, fun i hi => h i hi hi⟩

theorem OKs.take {ds : List Dec} (h : OKs ds) (n : Nat) : OKs (ds.take n) := by
  intro i hi
  have h1 : i < ds.length ∧ i < n := by simp at hi; omega
  rw [List.getElem_take, List.take_take, Nat.min_eq_left (by omega)]
  exact h i h1.1

theorem upTo_oks {ds : List Dec} (hok : OKs ds) (day : Int) : OKs (upTo ds day) := by
  obtain ⟨n, _, e, _⟩ := upTo_cut hok day
  rw [e]
  exact hok.take n

def lastK (ds : List Dec) : Int := (ds.getLast?.map Dec.known).getD 0
theorem lastK_snoc (ds : List Dec) (d : Dec) : lastK (ds ++ [d]) = d.known := by simp [lastK]

theorem known_nonneg {d : Dec} (h : d.ok = true) : 0 ≤ d.known := by
  have := (ok_iff d).1 h
  omega

theorem knownF_last {ds : List Dec} (hok : OKs ds) : knownF ds = lastK ds := by
  have key : ∀ n, n ≤ ds.length → knownF (ds.take n) = lastK (ds.take n) := by
    intro n
    induction n with
    | zero => intro _; rfl
    | succ n ih =>
      intro hn
      have e : ds.take (n + 1) = ds.take n ++ [ds[n]'(by omega)] := by rw [List.take_add_one, List.getElem?_eq_getElem (by omega)]; rfl
      rw [e, knownF_snoc, lastK_snoc, ih (by omega)]
      cases n with
      | zero =>
        have := known_nonneg (hok.ok (List.getElem_mem (show 0 < ds.length by omega)))
        simp [lastK]
        omega
      | succ m =>
        have h1 := (hok.next (show m + 1 < ds.length by omega) (by omega)).2
        have e2 : ds.take (m + 1) = ds.take m ++ [ds[m]'(by omega)] := by rw [List.take_add_one, List.getElem?_eq_getElem (by omega)]; rfl
        rw [e2, lastK_snoc]
        simp only [Nat.add_sub_cancel] at h1
        omega
  have := key ds.length (Nat.le_refl _)
  rwa [List.take_length] at this

theorem knownF_mono {ds : List Dec} (hok : OKs ds) {a b : Int} (hab : a ≤ b) : knownF (upTo ds a) ≤ knownF (upTo ds b) := by
  obtain ⟨n, hn, e, h⟩ := upTo_cut hok a
  obtain ⟨m, hm, e2, h2⟩ := upTo_cut hok b
  have hnm : n ≤ m := by
    rcases Nat.eq_zero_or_pos n with h0 | h0
    · omega
    · have h3 := (h (n - 1) (by omega)).2 (by omega)
      have := (h2 (n - 1) (by omega)).1 (by omega)
      omega
  rw [e, e2]
  have e3 : ds.take m = ds.take n ++ (ds.take m).drop n := by
    have h4 := List.take_append_drop n (ds.take m)
    rw [List.take_take, Nat.min_eq_left hnm] at h4
    exact h4.symm
  rw [e3]
  unfold knownF
  rw [List.foldl_append]
  generalize List.foldl (fun m d => max m d.known) 0 (ds.take n) = x
  have key : ∀ (l : List Dec) (x : Int), x ≤ l.foldl (fun m d => max m d.known) x := by
    intro l
    induction l with
    | nil => intro x; exact Int.le_refl _
    | cons a l ih => intro x; exact Int.le_trans (Int.le_max_left x a.known) (ih _)
  exact key _ _

theorem knownF_bound {ds : List Dec} (hok : OKs ds) : 0 ≤ knownF ds ∧ knownF ds ≤ 400 := by
  rw [knownF_last hok]
  unfold lastK
  cases hl : ds.getLast? with
  | none => simp
  | some d =>
    have hd : d ∈ ds := List.mem_of_getLast? hl
    have := (ok_iff d).1 (hok.ok hd)
    simp
    omega

theorem known_any (v : Value) (ds : List Dec) (day : Int) (w : World) (h : SliceDecs w v ds) (hok : OKs ds) (hl : ds.length ≤ 1000) :
    Calls Try.prog 30 #[.agg #[v], .int .i64 day] w fun e w' => e = .returned (.int .i64 (knownF (upTo ds day))) ∧ Below w.heap.size w w' := by
  rcases h with ⟨rfl, rfl⟩ | ⟨g, cap, rfl, hg, hcap, hd⟩
  · exact known_none day w
  · refine (known_some g cap ds day w hg hd hok hl hcap).mono ?_
    rintro e w' ⟨n, hn, hiff, rfl, hb⟩
    rw [← upTo_of_iff hn hiff]
    exact ⟨rfl, hb⟩

/-- the value that the law's own loop has behind k of the decisions -/
def wantK (ds : List Dec) (day : Int) (k : Nat) : Int := lastK (upTo (ds.take k) day)
theorem wantK_zero (ds : List Dec) (day : Int) : wantK ds day 0 = 0 := rfl
theorem wantK_succ {ds : List Dec} {day : Int} {k : Nat} (h : k < ds.length) : wantK ds day (k + 1) = if ds[k].day ≤ day then ds[k].known else wantK ds day k := by
  unfold wantK upTo
  have e : ds.take (k + 1) = ds.take k ++ [ds[k]] := by rw [List.take_add_one, List.getElem?_eq_getElem h]; rfl
  rw [e, List.filter_append]
  by_cases hd : ds[k].day ≤ day
  · rw [if_pos hd]
    simp [hd, lastK]
  · rw [if_neg hd]
    simp [hd]
theorem wantK_all {ds : List Dec} (hok : OKs ds) (day : Int) : wantK ds day ds.length = knownF (upTo ds day) := by
  unfold wantK
  rw [List.take_length, knownF_last (upTo_oks hok day)]

/-- what the day before said -/
def prevK (ds : List Dec) (j : Nat) : Int := if j = 0 then 0 else knownF (upTo ds ((j : Int) - 1))
theorem prevK_le {ds : List Dec} (hok : OKs ds) (j : Nat) : prevK ds j ≤ knownF (upTo ds j) := by
  unfold prevK
  split
  · exact (knownF_bound (upTo_oks hok _)).1
  · exact knownF_mono hok (by omega)
theorem prevK_succ (ds : List Dec) (j : Nat) : prevK ds (j + 1) = knownF (upTo ds j) := by
  unfold prevK
  rw [if_neg (by omega)]
  congr 2
  omega
end Go.Proofs.Ytpjcaanlagibpaa

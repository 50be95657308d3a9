import Derived.Test.YtpbahffkhpfakaaWNx1Z
import Derived.Test.YtpbahffkhpfakaaWCalZ
namespace Go.Proofs.Ytpbahffkhpfakaa
open Go.RowKit
set_option linter.unusedSimpArgs false
set_option linter.unusedVariables false

/-! ## What is to be expected of a drawn calendar -/

theorem drawn_chk {c : Cal} {n : Nat} (h : Drawn c n) : checkF c c.team.length = 0 := by
  obtain ⟨x, y, hr, hx, hy⟩ := h.room
  obtain ⟨fm, hfm, hw⟩ := h.wins
  have hf := h.few
  unfold checkF
  rw [if_neg (by rw [hr]; simp; omega), if_neg ?_, if_neg ?_, if_neg ?_, if_neg ?_, if_neg ?_]
  · rw [hr]
    simp only [Bool.not_eq_false, List.length_cons, List.length_nil, ne_eq, not_true_eq_false, false_or, List.all_eq_true]
    intro t ht
    rcases h.t01 t ht with rfl | rfl <;> simp [inB]
  · rw [hr]
    simp only [Bool.not_eq_false, List.all_eq_true]
    intro z hz t ht
    rcases hw.teams z hz with e | e | e | e
    all_goals
      rw [e] at ht
      simp only [List.mem_cons, List.not_mem_nil, or_false] at ht
    · rcases ht with rfl | rfl <;> simp [inB]
    · subst ht; simp [inB]
    · subst ht; simp [inB]
  · simp only [not_or, Bool.not_eq_false, List.all_eq_true]
    refine ⟨hw.apart, fun z hz => ?_⟩
    rcases hw.teams z hz with e | e | e | e <;> rw [e] <;> rfl
  · simp only [Bool.not_eq_false, List.all_eq_true]
    intro z hz
    have := hw.days z hz
    unfold daysB
    simp
    omega
  · rw [hr]
    rcases hx with rfl | rfl | rfl <;> rcases hy with rfl | rfl <;> simp [inB]

theorem sorted {ws : List Win} (hd : ∀ x ∈ ws, x.frm < x.til) (ha : apartB ws = true) : ∀ (j i : Nat) (hj : j < ws.length) (hij : i < j), (ws[i]'(by omega)).til ≤ (ws[j]).frm := by
  intro j
  induction j with
  | zero => intro i _ h; exact absurd h (Nat.not_lt_zero _)
  | succ j ih =>
    intro i hj hij
    have hadj := (pairB_iff (fun a b : Win => decide (a.til ≤ b.frm)) ws).1 ha j hj
    have hadj' : ws[j].til ≤ ws[j + 1].frm := by simpa using hadj
    by_cases e : i = j
    · subst e; exact hadj'
    · have h1 := ih i (by omega) (by omega)
      have h2 := hd ws[j] (List.getElem_mem _)
      omega

theorem at_spec (c : Cal) (t k : Int) : (atF c k = -1 ∧ mayF c t k = false) ∨ ∃ m, ∃ hm : m < c.wins.length, atF c k = (m : Int) ∧ c.wins[m].frm ≤ k ∧ k < c.wins[m].til ∧ mayF c t k = (c.wins[m].ts.any fun y => decide (t = y)) := by
  unfold atF mayF
  rcases firstI_cases (hasB k) c.wins with ⟨m, hm, e, hh, hb⟩ | ⟨e, hm⟩
  · right
    rw [firstI_find hm hh hb]
    have : c.wins[m].frm ≤ k ∧ k < c.wins[m].til := by simpa [hasB] using hh
    exact ⟨m, hm, e, this.1, this.2, rfl⟩
  · left
    rw [firstI_none hm]
    exact ⟨e, rfl⟩

theorem firstD_cases (d : Int) (q : Nat → Bool) : ∀ (ws : List Win) (k : Nat), (firstD d q k ws = (0, false) ∧ ∀ j (h : j < ws.length), ¬ (max d ws[j].frm < ws[j].til ∧ q (k + j) = true)) ∨
    ∃ j, ∃ hj : j < ws.length, firstD d q k ws = (max d ws[j].frm, true) ∧ (max d ws[j].frm < ws[j].til ∧ q (k + j) = true) ∧ ∀ i (hi : i < j), ¬ (max d (ws[i]'(by omega)).frm < (ws[i]'(by omega)).til ∧ q (k + i) = true)
  | [], k => .inl ⟨rfl, fun j h => by simp at h⟩
  | x :: l, k => by
    by_cases h : max d x.frm < x.til ∧ q k = true
    · right
      exact ⟨0, by simp, by rw [firstD, if_pos h]; rfl, by simpa using h, fun i hi => absurd hi (Nat.not_lt_zero _)⟩
    · rw [firstD, if_neg h]
      rcases firstD_cases d q l (k + 1) with ⟨e, hn⟩ | ⟨j, hj, e, h1, h2⟩
      · left
        refine ⟨e, fun j hj => ?_⟩
        cases j with
        | zero => simpa using h
        | succ j => have := hn j (by simpa using hj); rw [show k + 1 + j = k + (j + 1) from by omega] at this; simpa using this
      · right
        refine ⟨j + 1, by simpa using hj, by simpa using e, by rw [show k + 1 + j = k + (j + 1) from by omega] at h1; simpa using h1, fun i hi => ?_⟩
        cases i with
        | zero => simpa using h
        | succ i => have := h2 i (by omega); rw [show k + 1 + i = k + (i + 1) from by omega] at this; simpa using this

theorem teamB_at {c : Cal} {t : Int} {k : Nat} (h : k < c.wins.length) : teamB c t k = (c.wins[k].ts.any fun y => decide (t = y)) := by
  unfold teamB
  rw [List.getElem?_eq_getElem h]
  rfl
/-- the next day is the first on which the team may work -/
theorem next_spec {c : Cal} {n : Nat} (h : Drawn c n) (t d : Int) (hd : d < 260) :
    ((firstD d (teamB c t) 0 c.wins).2 = true → d ≤ (firstD d (teamB c t) 0 c.wins).1 ∧ (firstD d (teamB c t) 0 c.wins).1 < 260 ∧ mayF c t (firstD d (teamB c t) 0 c.wins).1 = true ∧ ∀ k, d ≤ k → k < (firstD d (teamB c t) 0 c.wins).1 → mayF c t k = false) ∧
    ((firstD d (teamB c t) 0 c.wins).2 = false → ∀ k, d ≤ k → mayF c t k = false) := by
  obtain ⟨fm, hfm, hw⟩ := h.wins
  have hs := sorted (fun x hx => (hw.days x hx).2.1) hw.apart
  rcases firstD_cases d (teamB c t) c.wins 0 with ⟨e, hn⟩ | ⟨j, hj, e, ⟨h1, h1q⟩, h2⟩
  · rw [e]
    refine ⟨(fun h => by cases h), fun _ k hk => ?_⟩
    rcases at_spec c t k with ⟨_, h3⟩ | ⟨m, hm, _, h4, h5, h6⟩
    · exact h3
    · rw [h6]
      have := hn m hm
      rw [Nat.zero_add, teamB_at hm] at this
      cases hq : (c.wins[m].ts.any fun y => decide (t = y)) with
      | false => rfl
      | true => exact absurd ⟨by omega, hq⟩ this
  · rw [e]
    rw [Nat.zero_add, teamB_at hj] at h1q
    have hdj := hw.days c.wins[j] (List.getElem_mem hj)
    refine ⟨fun _ => ⟨?_, ?_, ?_, fun k hk hk2 => ?_⟩, fun h => by cases h⟩
    · show d ≤ max d _
      omega
    · show max d c.wins[j].frm < 260
      omega
    · show mayF c t (max d c.wins[j].frm) = true
      rcases at_spec c t (max d c.wins[j].frm) with ⟨h3, _⟩ | ⟨m, hm, _, h4, h5, h6⟩
      · exfalso
        rcases firstI_cases (hasB (max d c.wins[j].frm)) c.wins with ⟨m, hm, e2, _, _⟩ | ⟨e2, hno⟩
        · unfold atF at h3
          omega
        · have := hno j hj
          simp [hasB] at this
          omega
      · rw [h6]
        by_cases e1 : m = j
        · subst e1; exact h1q
        · exfalso
          by_cases e2 : m < j
          · have := hs j m hj e2
            omega
          · have := hs m j hm (by omega)
            omega
    · have hk2' : k < max d c.wins[j].frm := hk2
      rcases at_spec c t k with ⟨_, h3⟩ | ⟨m, hm, _, h4, h5, h6⟩
      · exact h3
      · rw [h6]
        cases hq : (c.wins[m].ts.any fun y => decide (t = y)) with
        | false => rfl
        | true =>
          exfalso
          by_cases e2 : m < j
          · have := h2 m e2
            rw [Nat.zero_add, teamB_at hm] at this
            exact this ⟨by omega, hq⟩
          · by_cases e1 : m = j
            · subst e1; omega
            · have := hs m j hm (by omega)
              omega
end Go.Proofs.Ytpbahffkhpfakaa


import Derived.Test.YtpjcaanlagibpaaAdds
namespace Go.Proofs.Ytpjcaanlagibpaa
open Go.RowKit
set_option linter.unusedSimpArgs false
set_option linter.unusedVariables false

/-! ## Which decisions changed what was said -/

def chgAt (ds : List Dec) (k s : Int) : Nat → List Nat × Int
  | 0 => ([], -1)
  | i + 1 => match ds[i]? with
    | none => chgAt ds k s i
    | some d => if hits k s d = true ∧ d.value ≠ (chgAt ds k s i).2 then ((chgAt ds k s i).1 ++ [i], d.value) else chgAt ds k s i

def valAt (ds : List Dec) (n : Nat) : Int := ((ds[n]?).map Dec.value).getD 0
theorem valAt_lt {ds : List Dec} {n : Nat} (h : n < ds.length) : valAt ds n = ds[n].value := by simp [valAt, h]

structure Chgd (ds : List Dec) (k s : Int) (i : Nat) (c : List Nat × Int) : Prop where
  lt : ∀ n ∈ c.1, n < i ∧ n < ds.length
  hit : ∀ n (h : n < ds.length), n ∈ c.1 → ds[n].kind = k ∧ ds[n].subject = s
  asc : ∀ j (h : j + 1 < c.1.length), c.1[j] < c.1[j + 1] ∧ valAt ds c.1[j] ≠ valAt ds c.1[j + 1]
  nil : c.1 = [] → c.2 = -1
  last : ∀ n, c.1.getLast? = some n → c.2 = valAt ds n
  none : latestOf (ds.take i) k s = none ↔ c.1 = []
  lat : ∀ d, latestOf (ds.take i) k s = some d → d.value = c.2

theorem latestOf_snoc (ds : List Dec) (k s : Int) (d : Dec) : latestOf (ds ++ [d]) k s = if hits k s d = true then some d else latestOf ds k s := by
  unfold latestOf
  rw [List.reverse_append]
  simp only [List.reverse_cons, List.reverse_nil, List.nil_append, List.singleton_append, List.find?_cons]
  cases hits k s d <;> rfl

theorem chgd_all {ds : List Dec} (hok : OKs ds) (k s : Int) : ∀ i, i ≤ ds.length → Chgd ds k s i (chgAt ds k s i) := by
  intro i
  induction i with
  | zero =>
    intro _
    exact ⟨(fun n h => by cases h), (fun n h h2 => by cases h2), (fun j h => by simp [chgAt] at h), (fun _ => rfl), (fun n h => by simp [chgAt] at h), (by simp [chgAt, latestOf]), (fun d h => by simp [latestOf] at h)⟩
  | succ i ih =>
    intro hi
    have h := ih (by omega)
    have hil : i < ds.length := by omega
    have e : chgAt ds k s (i + 1) = if hits k s ds[i] = true ∧ ds[i].value ≠ (chgAt ds k s i).2 then ((chgAt ds k s i).1 ++ [i], ds[i].value) else chgAt ds k s i := by
      simp only [chgAt, List.getElem?_eq_getElem hil]
    have et : ds.take (i + 1) = ds.take i ++ [ds[i]] := by rw [List.take_add_one, List.getElem?_eq_getElem hil]; rfl
    have hv := (ok_iff ds[i]).1 (hok.ok (List.getElem_mem hil))
    rw [e]
    generalize chgAt ds k s i = c at *
    by_cases hh : hits k s ds[i] = true
    · have hh2 := hh
      simp only [hits, Bool.and_eq_true, decide_eq_true_eq] at hh2
      by_cases hne : ds[i].value ≠ c.2
      · rw [if_pos ⟨hh, hne⟩]
        refine ⟨?_, ?_, ?_, ?_, ?_, ?_, ?_⟩
        · intro n hn
          rcases List.mem_append.1 hn with h1 | h1
          · have := h.lt n h1; omega
          · simp at h1; omega
        · intro n hnl hn
          rcases List.mem_append.1 hn with h1 | h1
          · exact h.hit n hnl h1
          · simp at h1; subst h1; exact hh2
        · intro j hj
          simp only [List.length_append, List.length_cons, List.length_nil] at hj
          by_cases hj2 : j + 1 < c.1.length
          · have := h.asc j hj2
            simp only [List.getElem_append_left hj2, List.getElem_append_left (show j < c.1.length by omega)]
            exact this
          · have hj3 : j + 1 = c.1.length := by omega
            have hl : c.1.getLast? = some (c.1[j]'(by omega)) := by rw [List.getLast?_eq_getElem?, show c.1.length - 1 = j from by omega, List.getElem?_eq_getElem (by omega)]
            have e1 : (c.1 ++ [i])[j + 1]'(by simp; omega) = i := by rw [List.getElem_append_right (by omega)]; simp [hj3]
            have e2 : (c.1 ++ [i])[j]'(by simp; omega) = c.1[j]'(by omega) := List.getElem_append_left _
            have h1 := h.last _ hl
            have h2 := h.lt _ (List.getElem_mem (show j < c.1.length by omega))
            simp only [e1, e2]
            refine ⟨h2.1, ?_⟩
            rw [valAt_lt hil, ← h1]
            exact fun q => hne q.symm
        · intro h1; simp at h1
        · intro n hn
          simp at hn
          subst hn
          exact (valAt_lt hil).symm
        · rw [et, latestOf_snoc, if_pos hh]; simp
        · intro d hd
          rw [et, latestOf_snoc, if_pos hh] at hd
          injection hd with hd
          rw [← hd]
      · rw [if_neg (fun q => hne q.2)]
        have heq : ds[i].value = c.2 := Classical.not_not.1 hne
        have hc1 : c.1 ≠ [] := fun q => by have := h.nil q; omega
        refine ⟨fun n hn => ?_, h.hit, h.asc, h.nil, h.last, ?_, ?_⟩
        · have := h.lt n hn; omega
        · rw [et, latestOf_snoc, if_pos hh]; simp [hc1]
        · intro d hd
          rw [et, latestOf_snoc, if_pos hh] at hd
          injection hd with hd
          rw [← hd]; exact heq
    · rw [if_neg (fun q => hh q.1)]
      refine ⟨fun n hn => ?_, h.hit, h.asc, h.nil, h.last, ?_, ?_⟩
      · have := h.lt n hn; omega
      · rw [et, latestOf_snoc, if_neg hh]; exact h.none
      · intro d hd
        rw [et, latestOf_snoc, if_neg hh] at hd
        exact h.lat d hd

/-- a row of the call's own that holds indices -/
def natVals (l : List Nat) : List Value := l.map fun (n : Nat) => Value.int .i64 (n : Int)
def OwnNats (w : World) (base : Nat) (v : Value) (l : List Nat) : Prop := w.ownsRow base 3 1 v l.length (natVals l)
theorem natVals_snoc (l : List Nat) (n : Nat) : natVals (l ++ [n]) = natVals l ++ [.int .i64 (n : Int)] := by simp [natVals]

theorem OwnNats.kept {w w' : World} {base : Nat} {v : Value} {l : List Nat} (h : OwnNats w base v l) (hb : ∀ k, base ≤ k → k < w.heap.size → w'.heap[k]? = w.heap[k]?) : OwnNats w' base v l := by
  obtain ⟨hl, h | ⟨g, cap, cur, hv, hg, hh, r⟩⟩ := h
  · exact ⟨hl, .inl h⟩
  · exact ⟨hl, .inr ⟨g, cap, cur, hv, hg, by rw [hb g hg (Array.getElem?_eq_some_iff.1 hh).1]; exact hh, r⟩⟩

theorem infoInt : (Try.prog.info? 3).map (fun i => (i.zero, i.size, i.bytes)) = some (some (.int .i64 0), 1, 8) := by kernel_rfl

theorem OwnNats.form {w : World} {base : Nat} {v : Value} {l : List Nat} (h : OwnNats w base v l) : ∃ a m, v = .slice a l.length m := by
  rcases h.2 with ⟨rfl, h0⟩ | ⟨g, cap, _, rfl, _⟩
  · rw [h0]; exact ⟨_, _, rfl⟩
  · exact ⟨_, _, rfl⟩

/-- a row of indices, to be read -/
def NatsAt (w : World) (v : Value) (l : List Nat) : Prop :=
  (v = .slice none 0 0 ∧ l = []) ∨ ∃ g cap, v = .slice (some ⟨g, 0, none⟩) l.length cap ∧ g < w.heap.size ∧ ∀ j (h : j < l.length), w.cell? ⟨g, j, none⟩ = some (.int .i64 (l[j] : Int))
theorem OwnNats.at {w : World} {base : Nat} {v : Value} {l : List Nat} (h : OwnNats w base v l) : NatsAt w v l := by
  rcases h.2 with ⟨h1, h0⟩ | ⟨g, cap, cur, h1, hb, hg, _⟩
  · exact .inl ⟨h1, List.eq_nil_of_length_eq_zero h0⟩
  · refine .inr ⟨g, cap, h1, (Array.getElem?_eq_some_iff.1 hg).1, fun j hj => ?_⟩
    have hc := World.ownsRow.cells h (g := g) (by rw [h1]; rfl) j (.int .i64 (l[j] : Int)) (by simp [natVals, hj])
    have hp' : (⟨g, 0, none⟩ : Addr).add j = ⟨g, j, none⟩ := by unfold Addr.add; split <;> simp_all
    rwa [hp'] at hc
theorem NatsAt.below {w w' : World} {v : Value} {l : List Nat} (h : NatsAt w v l) (hb : Below w.heap.size w w') : NatsAt w' v l := by
  rcases h with ⟨h1, h2⟩ | ⟨g, cap, h1, h2, h3⟩
  · exact .inl ⟨h1, h2⟩
  · exact .inr ⟨g, cap, h1, Nat.lt_of_lt_of_le h2 hb.size, fun j hj => (hb.cell (p := ⟨g, j, none⟩) h2).trans (h3 j hj)⟩
theorem NatsAt.form {w : World} {v : Value} {l : List Nat} (h : NatsAt w v l) : ∃ a m, v = .slice a l.length m := by
  rcases h with ⟨rfl, rfl⟩ | ⟨g, cap, rfl, _⟩
  · exact ⟨_, _, rfl⟩
  · exact ⟨_, _, rfl⟩
end Go.Proofs.Ytpjcaanlagibpaa

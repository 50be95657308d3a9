import Derived.Test.YtpjcaanlagibpaaChg
import Derived.Test.YtpjcaanlagibpaaDecI
namespace Go.Proofs.Ytpjcaanlagibpaa
open Go.RowKit
set_option linter.unusedSimpArgs false
set_option linter.unusedVariables false

/-! ## Whatever string has records: some, and then none -/

/-- the first records of a string -/
def GoodTo (s : ByteArray) (ds : List Dec) : Prop :=
  ∀ i (h : i < ds.length) (w : World), Calls Try.prog 53 #[.string s, .int .i64 ((12 * i : Nat) : Int)] w fun e w' => e = .returned (.tuple #[.agg #[.int .i64 ds[i].day, .int .i64 ds[i].known, .int .i64 ds[i].kind, .int .i64 ds[i].subject, .int .i64 ds[i].value], .int .i64 (((12 * i : Nat) : Int) + 12), .int .i64 0]) ∧ Below w.heap.size w w'

theorem GoodTo.snoc {s : ByteArray} {ds : List Dec} {d : Dec} (h : GoodTo s ds) (hd : ∀ w : World, Calls Try.prog 53 #[.string s, .int .i64 ((12 * ds.length : Nat) : Int)] w fun e w' => e = .returned (.tuple #[.agg #[.int .i64 d.day, .int .i64 d.known, .int .i64 d.kind, .int .i64 d.subject, .int .i64 d.value], .int .i64 (((12 * ds.length : Nat) : Int) + 12), .int .i64 0]) ∧ Below w.heap.size w w') : GoodTo s (ds ++ [d]) := by
  intro i hi w
  by_cases hlt : i < ds.length
  · rw [List.getElem_append_left hlt]
    exact h i hlt w
  · have : i = ds.length := by simp at hi; omega
    subst this
    simp only [List.getElem_concat_length]
    exact hd w

theorem reads_from (s : ByteArray) (hs : s.size ≤ 100000) : ∀ (n : Nat) (pre : List Dec), GoodTo s pre → 12 * pre.length ≤ s.size → s.size - 12 * pre.length ≤ 12 * n → ∃ es, Reads s (pre ++ es) ∧ 12 * (pre ++ es).length ≤ s.size := by
  intro n
  induction n with
  | zero =>
    intro pre hg hp hn
    refine ⟨[], ?_⟩
    rw [List.append_nil]
    exact ⟨⟨hg, ⟨1, by decide, fun w => decode_short s (12 * pre.length) w (by omega) hp (by omega)⟩, by omega⟩, hp⟩
  | succ n ih =>
    intro pre hg hp hn
    by_cases h12 : s.size - 12 * pre.length < 12
    · refine ⟨[], ?_⟩
      rw [List.append_nil]
      exact ⟨⟨hg, ⟨1, by decide, fun w => decode_short s (12 * pre.length) w (by omega) hp h12⟩, by omega⟩, hp⟩
    by_cases hsum : beVal ((recAt s.data.toList (12 * pre.length)).drop 8) = fnv ((recAt s.data.toList (12 * pre.length)).take 8)
    · by_cases hok : (recGet (recAt s.data.toList (12 * pre.length))).ok = true
      · obtain ⟨es, he, hl⟩ := ih (pre ++ [recGet (recAt s.data.toList (12 * pre.length))]) (hg.snoc fun w => decode_ok' s (12 * pre.length) w _ _ _ _ _ _ (by omega) (by omega) rfl hsum rfl rfl rfl rfl rfl hok) (by simp; omega) (by simp; omega)
        refine ⟨recGet (recAt s.data.toList (12 * pre.length)) :: es, ?_⟩
        rw [List.append_assoc] at he hl
        exact ⟨he, hl⟩
      · refine ⟨[], ?_⟩
        rw [List.append_nil]
        exact ⟨⟨hg, ⟨57, by decide, fun w => decode_bad' s (12 * pre.length) w _ _ _ _ _ _ (by omega) (by omega) rfl hsum rfl rfl rfl rfl rfl (by unfold recGet at hok; simpa using hok)⟩, by omega⟩, hp⟩
    · refine ⟨[], ?_⟩
      rw [List.append_nil]
      exact ⟨⟨hg, ⟨58, by decide, fun w => decode_sum s (12 * pre.length) w (by omega) (by omega) hsum⟩, by omega⟩, hp⟩

/-- a string that begins with records of decisions has at least those -/
theorem reads_prefix (s : ByteArray) (ds : List Dec) (k : Nat) (hs : s.size ≤ 100000) (hok : ∀ d ∈ ds, d.ok = true) (hk : k ≤ ds.length) (hp : 12 * k ≤ s.size) (hpre : s.data.toList.take (12 * k) = (recsOf ds).take (12 * k)) :
    ∃ es, Reads s (ds.take k ++ es) ∧ 12 * (ds.take k ++ es).length ≤ s.size := by
  have hkl : (ds.take k).length = k := by simp; omega
  refine reads_from s hs s.size (ds.take k) ?_ (by omega) (by omega)
  intro i hi w
  have hi2 : i < ds.length := by omega
  have hd : (ds.take k)[i] = ds[i] := List.getElem_take
  rw [hd]
  refine decode_rec s (12 * i) w ds[i] (hok _ (List.getElem_mem _)) (by omega) (by omega) ?_
  rw [← recsOf_at ds i hi2]
  have e : ∀ l : List UInt8, recAt l (12 * i) = recAt (l.take (12 * k)) (12 * i) := by
    intro l
    unfold recAt
    rw [List.drop_take, List.take_take, Nat.min_eq_left (by omega)]
  rw [e, hpre, ← e]
end Go.Proofs.Ytpjcaanlagibpaa

import Derived.Test.YtpjcaanlagibpaaRead
namespace Go.Proofs.Ytpjcaanlagibpaa
open Go.RowKit
set_option linter.unusedSimpArgs false
set_option linter.unusedVariables false

/-! ## What can be read of records of which one byte was changed -/

theorem recsOf_at : ∀ (ds : List Dec) (j : Nat) (h : j < ds.length), recAt (recsOf ds) (12 * j) = recOf ds[j]
  | d :: ds, 0, h => by
    unfold recAt recsOf
    rw [List.flatMap_cons, Nat.mul_zero, List.drop_zero, List.take_append_of_le_length (by rw [recOf_length]; exact Nat.le_refl _)]
    rw [List.take_of_length_le (by rw [recOf_length]; exact Nat.le_refl _)]
    rfl
  | d :: ds, j + 1, h => by
    have ih := recsOf_at ds j (by simpa using h)
    unfold recAt recsOf at ih ⊢
    rw [List.flatMap_cons, show 12 * (j + 1) = 12 + 12 * j from by omega, ← List.drop_drop]
    rw [show List.drop 12 (recOf d ++ List.flatMap recOf ds) = List.flatMap recOf ds from by
      rw [List.drop_append_of_le_length (by rw [recOf_length]; exact Nat.le_refl _), List.drop_of_length_le (by rw [recOf_length]; exact Nat.le_refl _), List.nil_append]]
    exact ih

theorem recAt_set_far (l : List UInt8) (i at' : Nat) (c : UInt8) (h : at' + 12 ≤ i) : recAt (l.set i c) at' = recAt l at' := by
  unfold recAt
  rw [List.drop_set, if_neg (by omega), List.take_set, List.set_eq_of_length_le (by simp; omega)]

theorem recAt_set_near (l : List UInt8) (i at' : Nat) (c : UInt8) (h1 : at' ≤ i) : recAt (l.set i c) at' = (recAt l at').set (i - at') c := by
  unfold recAt
  rw [List.drop_set, if_neg (by omega), List.take_set]

theorem bytes_size (l : List UInt8) : (⟨l.toArray⟩ : ByteArray).size = l.length := by
  show l.toArray.size = _
  simp

/-- a record of a decision is read as that decision -/
theorem decode_rec (s : ByteArray) (at' : Nat) (w : World) (d : Dec) (hd : d.ok = true) (hs : s.size ≤ 1000000) (ha : at' + 12 ≤ s.size) (hr : recAt s.data.toList at' = recOf d) :
    Calls Try.prog 53 #[.string s, .int .i64 at'] w fun e w' => e = .returned (.tuple #[.agg #[.int .i64 d.day, .int .i64 d.known, .int .i64 d.kind, .int .i64 d.subject, .int .i64 d.value], .int .i64 ((at' : Int) + 12), .int .i64 0]) ∧ Below w.heap.size w w' := by
  have hn := d.nats hd
  have hb := (ok_iff d).1 hd
  obtain ⟨a, k, c, s', x⟩ := d
  simp only [Dec.mk.injEq] at hn
  simp only at hb
  obtain ⟨h1, h2, h3, h4, h5⟩ := hn
  unfold recOf at hr
  simp only at hr
  rw [h1, h2, h3, h4, h5]
  have hg := recGet_rec a.toNat k.toNat c.toNat s'.toNat x.toNat (by omega) (by omega) (by omega) (by omega) (by omega)
  unfold recGet at hg
  simp only [Dec.mk.injEq] at hg
  obtain ⟨g1, g2, g3, g4, g5⟩ := hg
  refine decode_ok' s at' w (recBytes a.toNat k.toNat c.toNat s'.toNat x.toNat) a.toNat k.toNat c.toNat s'.toNat x.toNat hs ha hr (rec_good _ _ _ _ _) (by omega) (by omega) (by omega) (by omega) (by omega) ?_
  rw [← h1, ← h2, ← h3, ← h4, ← h5]
  exact hd

/-- what was changed cannot be read -/
theorem decode_chg (ds : List Dec) (i : Nat) (c : UInt8) (hl : ds.length ≤ 1000) (hi : i < (recsOf ds).length) (hne : c ≠ (recsOf ds)[i]) (w : World) :
    Calls Try.prog 53 #[.string ⟨((recsOf ds).set i c).toArray⟩, .int .i64 ((12 * (i / 12) : Nat) : Int)] w fun e w' => e = .returned (.tuple #[zeroDec, .int .i64 0, .int .i64 58]) ∧ Below w.heap.size w w' := by
  have hlen := recsOf_length ds
  have hj : i / 12 < ds.length := by omega
  have hat := recsOf_at ds (i / 12) hj
  refine decode_sum _ (12 * (i / 12)) w (by rw [bytes_size, List.length_set]; omega) (by rw [bytes_size, List.length_set]; omega) ?_
  have e : recAt (⟨((recsOf ds).set i c).toArray⟩ : ByteArray).data.toList (12 * (i / 12)) = (recOf ds[i / 12]).set (i - 12 * (i / 12)) c := by
    show recAt ((recsOf ds).set i c) _ = _
    rw [recAt_set_near _ _ _ _ (by omega), hat]
  rw [e]
  refine rec_changed _ (recOf_length _) (rec_good _ _ _ _ _) _ (by omega) c ?_
  intro h
  apply hne
  rw [h]
  have h2 : (recAt (recsOf ds) (12 * (i / 12)))[i - 12 * (i / 12)]'(by rw [hat, recOf_length]; omega) = (recOf ds[i / 12])[i - 12 * (i / 12)]'(by rw [recOf_length]; omega) := by
    congr 1
  rw [← h2]
  unfold recAt
  rw [List.getElem_take, List.getElem_drop]
  congr 1
  omega

theorem reads_chg (ds : List Dec) (i : Nat) (c : UInt8) (hok : ∀ d ∈ ds, d.ok = true) (hl : ds.length ≤ 1000) (hi : i < (recsOf ds).length) (hne : c ≠ (recsOf ds)[i]) :
    Reads ⟨((recsOf ds).set i c).toArray⟩ (ds.take (i / 12)) := by
  have hlen := recsOf_length ds
  have ht : (ds.take (i / 12)).length = i / 12 := by simp; omega
  refine ⟨?_, ⟨58, by decide, ?_⟩, by omega⟩
  · intro j hj w
    have hj2 : j < ds.length := by omega
    have hd : (ds.take (i / 12))[j] = ds[j] := List.getElem_take
    rw [hd]
    refine decode_rec _ (12 * j) w ds[j] (hok _ (List.getElem_mem _)) (by rw [bytes_size, List.length_set]; omega) (by rw [bytes_size, List.length_set]; omega) ?_
    show recAt ((recsOf ds).set i c) (12 * j) = _
    rw [recAt_set_far _ _ _ _ (by omega), recsOf_at ds j hj2]
  · intro w
    rw [ht]
    exact decode_chg ds i c hl hi hne w

/-- records of decisions are read as those -/
theorem reads_recs (ds : List Dec) (hok : ∀ d ∈ ds, d.ok = true) (hl : ds.length ≤ 1000) : Reads ⟨(recsOf ds).toArray⟩ ds := by
  have hlen := recsOf_length ds
  refine ⟨?_, ⟨1, by decide, ?_⟩, by omega⟩
  · intro j hj w
    refine decode_rec _ (12 * j) w ds[j] (hok _ (List.getElem_mem _)) (by rw [bytes_size]; omega) (by rw [bytes_size]; omega) ?_
    exact recsOf_at ds j hj
  · intro w
    exact decode_short _ (12 * ds.length) w (by rw [bytes_size]; omega) (by rw [bytes_size]; omega) (by rw [bytes_size]; omega)
end Go.Proofs.Ytpjcaanlagibpaa

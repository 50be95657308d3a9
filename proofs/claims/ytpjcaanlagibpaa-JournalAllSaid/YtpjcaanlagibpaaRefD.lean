import Derived.Test.YtpjcaanlagibpaaRefV
import Derived.Test.YtpjcaanlagibpaaLedW
namespace Go.Proofs.Ytpjcaanlagibpaa
open Go.RowKit
set_option linter.unusedSimpArgs false
set_option linter.unusedVariables false

/-! ## What is read at an index of a string, by the package and by the reference -/

/-- what is read at an index: the decision, where it ends, the error -/
def decodeF (s : ByteArray) (at' : Int) : Dec × Int × Int :=
  if ¬ (0 ≤ at' ∧ at' ≤ s.size) then (⟨0, 0, 0, 0, 0⟩, 0, 2)
  else if (s.size : Int) - at' < 12 then (⟨0, 0, 0, 0, 0⟩, 0, 1)
  else if beVal ((recAt s.data.toList at'.toNat).drop 8) ≠ fnv ((recAt s.data.toList at'.toNat).take 8) then (⟨0, 0, 0, 0, 0⟩, 0, 58)
  else if (recGet (recAt s.data.toList at'.toNat)).ok then (recGet (recAt s.data.toList at'.toNat), at' + 12, 0)
  else (⟨0, 0, 0, 0, 0⟩, 0, 57)

def DecF (s : ByteArray) (at' : Int) (w : World) (e : Ending) (w' : World) : Prop :=
  e = .returned (.tuple #[(decodeF s at').1.val, .int .i64 (decodeF s at').2.1, .int .i64 (decodeF s at').2.2]) ∧ Below w.heap.size w w'

set_option maxRecDepth 100000 in
set_option maxHeartbeats 4000000 in
theorem decode_range (s : ByteArray) (at' : Int) (w : World) (hs : s.size ≤ 1000000) (ha : ¬ (0 ≤ at' ∧ at' ≤ s.size)) :
    Calls Try.prog 53 #[.string s, .int .i64 at'] w fun e w' => e = .returned (.tuple #[zeroDec, .int .i64 0, .int .i64 2]) ∧ Below w.heap.size w w' := by
  have hsi : (s.size : Int) ≤ 1000000 := by omega
  have hin := fun w1 => in_any at' 0 (s.size : Int) w1
  have hb : inB at' 0 (s.size : Int) = false := by simp [inB]; omega
  rw [hb] at hin
  have HI := Lib.hid hin
  clear hin hb
  unfold zeroDec
  go_enter Try.func53, Try.ntmps53
  go_wp2_with (go_at_call 67; refine (HI.out _).mono ?_; rintro e w1 ⟨rfl, rfl⟩)
  exact bodyPost_ret (v := .tuple #[.agg #[.int .i64 0, .int .i64 0, .int .i64 0, .int .i64 0, .int .i64 0], .int .i64 0, .int .i64 2]) (by simp [results, Try.results53, go_sem]) rfl ⟨rfl, (Below.refl _ _).alloc (Nat.le_refl _) _⟩

theorem decode_any (s : ByteArray) (at' : Int) (w : World) (hs : s.size ≤ 100000) :
    Calls Try.prog 53 #[.string s, .int .i64 at'] w (DecF s at' w) := by
  by_cases h1 : 0 ≤ at' ∧ at' ≤ s.size
  · obtain ⟨n, rfl⟩ := Int.eq_ofNat_of_zero_le h1.1
    by_cases h2 : (s.size : Int) - (n : Int) < 12
    · refine (decode_short s n w (by omega) (by omega) (by omega)).mono ?_
      rintro e w' ⟨rfl, hb⟩
      refine ⟨?_, hb⟩
      unfold decodeF
      rw [if_neg (not_not_intro h1), if_pos h2]
      rfl
    · by_cases h3 : beVal ((recAt s.data.toList n).drop 8) = fnv ((recAt s.data.toList n).take 8)
      · by_cases h4 : (recGet (recAt s.data.toList n)).ok = true
        · refine (decode_ok' s n w _ _ _ _ _ _ (by omega) (by omega) rfl h3 rfl rfl rfl rfl rfl h4).mono ?_
          rintro e w' ⟨rfl, hb⟩
          refine ⟨?_, hb⟩
          unfold decodeF
          rw [if_neg (not_not_intro h1), if_neg h2, Int.toNat_natCast, if_neg (not_not_intro h3), if_pos h4]
          rfl
        · refine (decode_bad' s n w _ _ _ _ _ _ (by omega) (by omega) rfl h3 rfl rfl rfl rfl rfl (by unfold recGet at h4; simpa using h4)).mono ?_
          rintro e w' ⟨rfl, hb⟩
          refine ⟨?_, hb⟩
          unfold decodeF
          rw [if_neg (not_not_intro h1), if_neg h2, Int.toNat_natCast, if_neg (not_not_intro h3), if_neg h4]
          rfl
      · refine (decode_sum s n w (by omega) (by omega) h3).mono ?_
        rintro e w' ⟨rfl, hb⟩
        refine ⟨?_, hb⟩
        unfold decodeF
        rw [if_neg (not_not_intro h1), if_neg h2, Int.toNat_natCast, if_pos h3]
        rfl
  · refine (decode_range s at' w (by omega) h1).mono ?_
    rintro e w' ⟨rfl, hb⟩
    refine ⟨?_, hb⟩
    unfold decodeF
    rw [if_pos h1]
    rfl

/-- the block of a result of five cells -/
structure ResAt (w W : World) : Prop where
  below : Below w.heap.size w W
  size : w.heap.size < W.heap.size
  res : ∀ j, j < 5 → ∃ v, W.cell? ⟨w.heap.size, j, none⟩ = some v
  rfree : ∀ j, W.frozen? ⟨w.heap.size, j, none⟩ = false

theorem ResAt.mono {w W W' : World} (h : ResAt w W) (hb : Below W.heap.size W W') : ResAt w W' :=
  ⟨h.below.trans (hb.mono h.below.size), Nat.lt_of_lt_of_le h.size hb.size,
    fun j hj => by obtain ⟨v, hv⟩ := h.res j hj; exact ⟨v, (hb.cell (p := ⟨w.heap.size, j, none⟩) h.size).trans hv⟩,
    fun j => (hb.frozen (p := ⟨w.heap.size, j, none⟩) h.size).trans (h.rfree j)⟩

theorem resAt_new (w : World) : ResAt w (w.alloc (.cells #[.int .i64 0, .int .i64 0, .int .i64 0, .int .i64 0, .int .i64 0] 27)) := by
  refine ⟨(Below.refl _ _).alloc (Nat.le_refl _) _, by simp, ?_, ?_⟩
  · intro j hj
    have e : j = 0 ∨ j = 1 ∨ j = 2 ∨ j = 3 ∨ j = 4 := by omega
    rcases e with e | e | e | e | e <;> subst e <;> exact ⟨_, World.cell?_alloc_at _ _ _ _ rfl⟩
  · intro j
    rw [frozen?_alloc_cells]; exact frozen_beyond _ _ _ (Nat.le_refl _)

set_option maxRecDepth 100000 in
set_option maxHeartbeats 4000000 in
theorem refdecode_short (s : ByteArray) (at' : Int) (w : World) (hs : s.size ≤ 100000) (h : ¬ (0 ≤ at' ∧ at' ≤ s.size) ∨ (s.size : Int) - at' < 12) :
    Calls Try.prog 54 #[.string s, .int .i64 at'] w (DecF s at' w) := by
  have hsi : (s.size : Int) ≤ 100000 := by omega
  by_cases h1 : 0 ≤ at' ∧ at' ≤ s.size
  · have hF : decodeF s at' = (⟨0, 0, 0, 0, 0⟩, 0, 1) := by
      unfold decodeF
      rw [if_neg (not_not_intro h1), if_pos (by omega)]
    have HF := Lib.hid hF
    obtain ⟨n, rfl⟩ := Int.eq_ofNat_of_zero_le h1.1
    have hn : (n : Int) ≤ (s.size : Int) := by omega
    have hl : (s.size : Int) - (n : Int) < 12 := by omega
    clear h h1 hF
    go_enter Try.func54, Try.ntmps54
    go_wp2_with fail
    all_goals
      refine bodyPost_ret (v := .tuple #[.agg #[.int .i64 0, .int .i64 0, .int .i64 0, .int .i64 0, .int .i64 0], .int .i64 0, .int .i64 1]) (by simp [results, Try.results54, go_sem]) rfl ⟨?_, (Below.refl _ _).alloc (Nat.le_refl _) _⟩
      rw [HF.out]
      rfl
  · have hF : decodeF s at' = (⟨0, 0, 0, 0, 0⟩, 0, 2) := by
      unfold decodeF
      rw [if_pos h1]
    have HF := Lib.hid hF
    clear h hF
    go_enter Try.func54, Try.ntmps54
    go_wp2_with fail
    all_goals
      refine bodyPost_ret (v := .tuple #[.agg #[.int .i64 0, .int .i64 0, .int .i64 0, .int .i64 0, .int .i64 0], .int .i64 0, .int .i64 2]) (by simp [results, Try.results54, go_sem]) rfl ⟨?_, (Below.refl _ _).alloc (Nat.le_refl _) _⟩
      rw [HF.out]
      rfl

set_option maxRecDepth 100000 in
set_option maxHeartbeats 4000000 in
theorem refdecode_long (s : ByteArray) (n : Nat) (w : World) (hs : s.size ≤ 100000) (ha : n + 12 ≤ s.size) :
    Calls Try.prog 54 #[.string s, .int .i64 n] w (DecF s n w) := by
  have hsi : (s.size : Int) ≤ 100000 := by omega
  have hai : (n : Int) + 12 ≤ (s.size : Int) := by omega
  obtain ⟨r, hr⟩ : ∃ r, recAt s.data.toList n = r := ⟨_, rfl⟩
  have hrl : r.length = 12 := by rw [← hr]; exact recAt_length s n ha
  have hB : (s.extract n (n + 8)).data.toList = r.take 8 := by
    rw [← hr, ByteArray.data_extract, Array.toList_extract]
    simp [recAt]
    rw [List.take_take, Nat.min_eq_left (by omega)]
  have hC : (s.extract (n + 8) (n + 12)).data.toList = r.drop 8 := by
    rw [← hr, ByteArray.data_extract, Array.toList_extract]
    simp [recAt]
    rw [List.drop_take, List.drop_drop]
  have hsB : (s.extract n (n + 8)).size = 8 := by rw [ByteArray.size_extract]; omega
  have hsC : (s.extract (n + 8) (n + 12)).size = 4 := by rw [ByteArray.size_extract]; omega
  have hsum := fun W : World => refsum_any (s.extract n (n + 8)) W (by unfold maxLen; omega)
  have hval := fun W : World => refvalue_any (s.extract (n + 8) (n + 12)) W (by omega)
  rw [hB] at hsum
  rw [hC] at hval
  have hsub : ∀ lo hi, hi ≤ 8 → ((s.extract n (n + 8)).extract lo hi).data.toList = (r.drop lo).take (hi - lo) := by
    intro lo hi h8
    rw [ByteArray.data_extract, Array.toList_extract, hB, List.extract_eq_take_drop, List.drop_take, List.take_take, Nat.min_eq_left (by omega)]
  have hsubs : ∀ lo hi, ((s.extract n (n + 8)).extract lo hi).size ≤ hi - lo := by
    intro lo hi
    rw [ByteArray.size_extract]; omega
  have hv : ∀ (lo hi : Nat) (W : World), hi ≤ 8 → hi - lo ≤ 4 → Calls Try.prog 69 #[.string ((s.extract n (n + 8)).extract lo hi)] W fun e w' => e = .returned (.int .i64 (beVal ((r.drop lo).take (hi - lo)))) ∧ w' = W := by
    intro lo hi W h8 h4
    have := refvalue_any ((s.extract n (n + 8)).extract lo hi) W (Nat.le_trans (hsubs lo hi) h4)
    rw [hsub lo hi h8] at this
    exact this
  have v1 := fun W => hv 0 3 W (by omega) (by omega)
  have v2 := fun W => hv 3 5 W (by omega) (by omega)
  have v3 := fun W => hv 5 6 W (by omega) (by omega)
  have v4 := fun W => hv 6 7 W (by omega) (by omega)
  have v5 := fun W => hv 7 8 W (by omega) (by omega)
  simp only [List.drop_zero, Nat.reduceSub] at v1 v2 v3 v4 v5
  have hsBi : ((s.extract n (n + 8)).size : Int) = 8 := by omega
  have hF : decodeF s (n : Int) = if beVal (r.drop 8) ≠ fnv (r.take 8) then (⟨0, 0, 0, 0, 0⟩, 0, 58) else if (recGet r).ok then (recGet r, (n : Int) + 12, 0) else (⟨0, 0, 0, 0, 0⟩, 0, 57) := by
    unfold decodeF
    rw [if_neg (by omega), if_neg (by omega), Int.toNat_natCast, hr]
  have b1 := beVal_lt (r.take 3)
  have b2 := beVal_lt ((r.drop 3).take 2)
  have hnn : ((n : Int) + 8).toNat = n + 8 := by omega
  have hnn2 : ((n : Int) + 12).toNat = n + 12 := by omega
  have hw8 : IntKind.i64.wrap ((n : Int) + 8) = (n : Int) + 8 := IntWalk.i64_in _ (by omega)
  have hw12 : IntKind.i64.wrap ((n : Int) + 12) = (n : Int) + 12 := IntWalk.i64_in _ (by omega)
  generalize hBB : s.extract n (n + 8) = B at *
  generalize hCC : s.extract (n + 8) (n + 12) = C at *
  have HF := Lib.hid hF
  have V1 := Lib.hid v1
  have V2 := Lib.hid v2
  have V3 := Lib.hid v3
  have V4 := Lib.hid v4
  have V5 := Lib.hid v5
  have HV := Lib.hid hv
  clear hF v1 v2 v3 v4 v5 hv hsub hsubs hr hB hC hsB hsC b1 b2 hw8 hw12
  have HBB := Lib.hid hBB
  generalize hN : beVal (r.drop 8) = N at *
  generalize hFF : fnv (r.take 8) = F at *
  go_enter Try.func54, Try.ntmps54
  go_wp2_with fail
  have hw8 : IntKind.i64.wrap ((n : Int) + 8) = (n : Int) + 8 := IntWalk.i64_in _ (by omega)
  have hw12 : IntKind.i64.wrap ((n : Int) + 12) = (n : Int) + 12 := IntWalk.i64_in _ (by omega)
  have hw0 : (0 : Int) ≤ (n : Int) + 8 := by omega
  have hw1 : (n : Int) + 8 ≤ (n : Int) + 12 := by omega
  have hres := resAt_new w
  generalize (w.alloc (.cells #[.int .i64 0, .int .i64 0, .int .i64 0, .int .i64 0, .int .i64 0] 27)) = W1 at *
  have HRES := Lib.hid hres
  clear hres
  by_cases hNF : N = F
  · have hne : ((F : Int) != (N : Int)) = false := by simp; omega
    rw [if_neg (not_not_intro hNF)] at HF
    go_quiet ((first | (go_at_call 56; exact Calls.quiet_of_same (hsum _)) | (go_at_call 69; exact Calls.quiet_of_same (hval _))))
    clear hw8 hw12 hw0 hw1
    have hM := HRES.out.mono (W' := W1.drewN nq) ⟨rfl, rfl, rfl, Nat.le_refl _, fun _ _ => rfl⟩
    generalize W1.drewN nq = W4 at *
    have HM := Lib.hid hM
    have hs4 := hM.size
    have hg : recGet r = ⟨(beVal (r.take 3) : Nat), (beVal ((r.drop 3).take 2) : Nat), (beVal ((r.drop 5).take 1) : Nat), (beVal ((r.drop 6).take 1) : Nat), (beVal ((r.drop 7).take 1) : Nat)⟩ := rfl
    rw [hg] at HF
    clear hM HRES hg hsum hval HV HBB hBB hCC
    generalize beVal (r.take 3) = m1 at *
    generalize beVal ((r.drop 3).take 2) = m2 at *
    generalize beVal ((r.drop 5).take 1) = m3 at *
    generalize beVal ((r.drop 6).take 1) = m4 at *
    generalize beVal ((r.drop 7).take 1) = m5 at *
    have HVA := Lib.hid (fun w1 => refvalid_any ⟨m1, m2, m3, m4, m5⟩ w1)
    generalize hok : (⟨m1, m2, m3, m4, m5⟩ : Dec).ok = ok at *
    unfold Dec.val at HVA
    go_wp2_with fail
    go_region_held3 (fun w' => ResAt w w')
      ((refine HM.out.mono ?_; (repeat' (first | exact Below.refl _ _ | refine Below.drew ?_ | (refine Below.alloc ?_ (by simp) _) | (refine Below.setCell ?_ (by simp) _)))))
      (first | (go_at_call 69; (first | (with_reducible refine (V1.out _).mono ?_) | (with_reducible refine (V2.out _).mono ?_) | (with_reducible refine (V3.out _).mono ?_) | (with_reducible refine (V4.out _).mono ?_) | (with_reducible refine (V5.out _).mono ?_)); rintro e w1 ⟨rfl, rfl⟩))
    all_goals
      have hM5 : ResAt w ((W4.alloc (.cells #[.int .i64 m1, .int .i64 m2, .int .i64 m3, .int .i64 m4, .int .i64 m5] 27)).drew) := by assumption
      have c0 : World.cell? ((W4.alloc (.cells #[.int .i64 m1, .int .i64 m2, .int .i64 m3, .int .i64 m4, .int .i64 m5] 27)).drew) ⟨W4.heap.size, 0, none⟩ = some (.int .i64 m1) := World.cell?_alloc_at _ _ _ _ rfl
      have c1 : World.cell? ((W4.alloc (.cells #[.int .i64 m1, .int .i64 m2, .int .i64 m3, .int .i64 m4, .int .i64 m5] 27)).drew) ⟨W4.heap.size, 1, none⟩ = some (.int .i64 m2) := World.cell?_alloc_at _ _ _ _ rfl
      have c2 : World.cell? ((W4.alloc (.cells #[.int .i64 m1, .int .i64 m2, .int .i64 m3, .int .i64 m4, .int .i64 m5] 27)).drew) ⟨W4.heap.size, 2, none⟩ = some (.int .i64 m3) := World.cell?_alloc_at _ _ _ _ rfl
      have c3 : World.cell? ((W4.alloc (.cells #[.int .i64 m1, .int .i64 m2, .int .i64 m3, .int .i64 m4, .int .i64 m5] 27)).drew) ⟨W4.heap.size, 3, none⟩ = some (.int .i64 m4) := World.cell?_alloc_at _ _ _ _ rfl
      have c4 : World.cell? ((W4.alloc (.cells #[.int .i64 m1, .int .i64 m2, .int .i64 m3, .int .i64 m4, .int .i64 m5] 27)).drew) ⟨W4.heap.size, 4, none⟩ = some (.int .i64 m5) := World.cell?_alloc_at _ _ _ _ rfl
      have hz5 : W4.heap.size < (World.heap ((W4.alloc (.cells #[.int .i64 m1, .int .i64 m2, .int .i64 m3, .int .i64 m4, .int .i64 m5] 27)).drew)).size := by simp
      have HM5 := Lib.hid hM5
      clear hM5 HM V1 V2 V3 V4 V5
      generalize ((W4.alloc (.cells #[.int .i64 m1, .int .i64 m2, .int .i64 m3, .int .i64 m4, .int .i64 m5] 27)).drew) = W5 at *
      go_wp2_with fail
      refine (HVA.out _).mono ?_
      rintro e W6 ⟨rfl, hb6⟩
      have hM6 := HM5.out.mono hb6
      replace c0 := (hb6.cell (p := ⟨W4.heap.size, 0, none⟩) hz5).trans c0
      replace c1 := (hb6.cell (p := ⟨W4.heap.size, 1, none⟩) hz5).trans c1
      replace c2 := (hb6.cell (p := ⟨W4.heap.size, 2, none⟩) hz5).trans c2
      replace c3 := (hb6.cell (p := ⟨W4.heap.size, 3, none⟩) hz5).trans c3
      replace c4 := (hb6.cell (p := ⟨W4.heap.size, 4, none⟩) hz5).trans c4
      obtain ⟨v0, h0⟩ := hM6.res 0 (by omega)
      obtain ⟨v1, h1⟩ := hM6.res 1 (by omega)
      obtain ⟨v2, h2⟩ := hM6.res 2 (by omega)
      obtain ⟨v3, h3⟩ := hM6.res 3 (by omega)
      obtain ⟨v4, h4⟩ := hM6.res 4 (by omega)
      have f0 := hM6.rfree 0
      have f1 := hM6.rfree 1
      have f2 := hM6.rfree 2
      have f3 := hM6.rfree 3
      have f4 := hM6.rfree 4
      cases ok with
      | false =>
        obtain ⟨q0, q1, q2, q3, q4⟩ := five_cells W6 w.heap.size (.int .i64 0) (.int .i64 0) (.int .i64 0) (.int .i64 0) (.int .i64 0) hM6.res
        have hB : Below w.heap.size w (((((W6.setCell ⟨w.heap.size, 0, none⟩ (.int .i64 0)).setCell ⟨w.heap.size, 1, none⟩ (.int .i64 0)).setCell ⟨w.heap.size, 2, none⟩ (.int .i64 0)).setCell ⟨w.heap.size, 3, none⟩ (.int .i64 0)).setCell ⟨w.heap.size, 4, none⟩ (.int .i64 0)) :=
          ((((hM6.below.setCell (Nat.le_refl _) _).setCell (Nat.le_refl _) _).setCell (Nat.le_refl _) _).setCell (Nat.le_refl _) _).setCell (Nat.le_refl _) _
        have Q0 := Lib.hid q0
        have Q1 := Lib.hid q1
        have Q2 := Lib.hid q2
        have Q3 := Lib.hid q3
        have Q4 := Lib.hid q4
        have HB := Lib.hid hB
        clear q0 q1 q2 q3 q4 hB hM6 hb6
        go_wp2_with fail
        have q0 := Q0.out
        have q1 := Q1.out
        have q2 := Q2.out
        have q3 := Q3.out
        have q4 := Q4.out
        refine bodyPost_ret (v := .tuple #[.agg #[.int .i64 0, .int .i64 0, .int .i64 0, .int .i64 0, .int .i64 0], .int .i64 0, .int .i64 57]) (by simp [results, Try.results54, go_sem, q0, q1, q2, q3, q4]) rfl ⟨?_, HB.out⟩
        rw [HF.out]
        rfl
      | true =>
        obtain ⟨q0, q1, q2, q3, q4⟩ := five_cells W6 w.heap.size (.int .i64 m1) (.int .i64 m2) (.int .i64 m3) (.int .i64 m4) (.int .i64 m5) hM6.res
        have hB : Below w.heap.size w (((((W6.setCell ⟨w.heap.size, 0, none⟩ (.int .i64 m1)).setCell ⟨w.heap.size, 1, none⟩ (.int .i64 m2)).setCell ⟨w.heap.size, 2, none⟩ (.int .i64 m3)).setCell ⟨w.heap.size, 3, none⟩ (.int .i64 m4)).setCell ⟨w.heap.size, 4, none⟩ (.int .i64 m5)) :=
          ((((hM6.below.setCell (Nat.le_refl _) _).setCell (Nat.le_refl _) _).setCell (Nat.le_refl _) _).setCell (Nat.le_refl _) _).setCell (Nat.le_refl _) _
        have Q0 := Lib.hid q0
        have Q1 := Lib.hid q1
        have Q2 := Lib.hid q2
        have Q3 := Lib.hid q3
        have Q4 := Lib.hid q4
        have HB := Lib.hid hB
        clear q0 q1 q2 q3 q4 hB hM6 hb6
        go_wp2_with fail
        have q0 := Q0.out
        have q1 := Q1.out
        have q2 := Q2.out
        have q3 := Q3.out
        have q4 := Q4.out
        refine bodyPost_ret (v := .tuple #[.agg #[.int .i64 m1, .int .i64 m2, .int .i64 m3, .int .i64 m4, .int .i64 m5], .int .i64 ((n : Int) + 12), .int .i64 0]) (by simp [results, Try.results54, go_sem, q0, q1, q2, q3, q4]) rfl ⟨?_, HB.out⟩
        rw [HF.out]
        rfl
  · have hne : ((F : Int) != (N : Int)) = true := by simp; omega
    rw [if_pos hNF] at HF
    go_quiet ((first | (go_at_call 56; exact Calls.quiet_of_same (hsum _)) | (go_at_call 69; exact Calls.quiet_of_same (hval _))))
    clear hw8 hw12 hw0 hw1
    have hM := HRES.out.mono (W' := W1.drewN nq) ⟨rfl, rfl, rfl, Nat.le_refl _, fun _ _ => rfl⟩
    generalize W1.drewN nq = W4 at *
    obtain ⟨v0, h0⟩ := hM.res 0 (by omega)
    obtain ⟨v1, h1⟩ := hM.res 1 (by omega)
    obtain ⟨v2, h2⟩ := hM.res 2 (by omega)
    obtain ⟨v3, h3⟩ := hM.res 3 (by omega)
    obtain ⟨v4, h4⟩ := hM.res 4 (by omega)
    have f0 := hM.rfree 0
    have f1 := hM.rfree 1
    have f2 := hM.rfree 2
    have f3 := hM.rfree 3
    have f4 := hM.rfree 4
    obtain ⟨q0, q1, q2, q3, q4⟩ := five_cells W4 w.heap.size (.int .i64 0) (.int .i64 0) (.int .i64 0) (.int .i64 0) (.int .i64 0) hM.res
    have hB : Below w.heap.size w (((((W4.setCell ⟨w.heap.size, 0, none⟩ (.int .i64 0)).setCell ⟨w.heap.size, 1, none⟩ (.int .i64 0)).setCell ⟨w.heap.size, 2, none⟩ (.int .i64 0)).setCell ⟨w.heap.size, 3, none⟩ (.int .i64 0)).setCell ⟨w.heap.size, 4, none⟩ (.int .i64 0)) :=
      ((((hM.below.setCell (Nat.le_refl _) _).setCell (Nat.le_refl _) _).setCell (Nat.le_refl _) _).setCell (Nat.le_refl _) _).setCell (Nat.le_refl _) _
    have Q0 := Lib.hid q0
    have Q1 := Lib.hid q1
    have Q2 := Lib.hid q2
    have Q3 := Lib.hid q3
    have Q4 := Lib.hid q4
    have HB := Lib.hid hB
    clear q0 q1 q2 q3 q4 hB hM HRES
    go_wp2_with fail
    have q0 := Q0.out
    have q1 := Q1.out
    have q2 := Q2.out
    have q3 := Q3.out
    have q4 := Q4.out
    refine bodyPost_ret (v := .tuple #[.agg #[.int .i64 0, .int .i64 0, .int .i64 0, .int .i64 0, .int .i64 0], .int .i64 0, .int .i64 58]) (by simp [results, Try.results54, go_sem, q0, q1, q2, q3, q4]) rfl ⟨?_, HB.out⟩
    rw [HF.out]
    rfl
theorem refdecode_any (s : ByteArray) (at' : Int) (w : World) (hs : s.size ≤ 100000) :
    Calls Try.prog 54 #[.string s, .int .i64 at'] w (DecF s at' w) := by
  by_cases h : ¬ (0 ≤ at' ∧ at' ≤ s.size) ∨ (s.size : Int) - at' < 12
  · exact refdecode_short s at' w hs h
  · have h1 : 0 ≤ at' := by omega
    obtain ⟨n, rfl⟩ := Int.eq_ofNat_of_zero_le h1
    exact refdecode_long s n w hs (by omega)
end Go.Proofs.Ytpjcaanlagibpaa

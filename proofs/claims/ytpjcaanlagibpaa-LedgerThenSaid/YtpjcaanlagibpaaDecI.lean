import Derived.Test.YtpjcaanlagibpaaDecW
namespace Go.Proofs.Ytpjcaanlagibpaa
open Go.RowKit
set_option linter.unusedSimpArgs false
set_option linter.unusedVariables false

/-! A record whose sum is right and which is no valid decision -/
set_option maxRecDepth 100000 in
set_option maxHeartbeats 4000000 in
theorem decode_bad' (s : ByteArray) (at' : Nat) (w : World) (r : List UInt8) (m1 m2 m3 m4 m5 : Nat) (hs : s.size ≤ 1000000) (ha : at' + 12 ≤ s.size) (hr : recAt s.data.toList at' = r) (hgood : beVal (r.drop 8) = fnv (r.take 8))
    (e1 : beVal (r.take 3) = m1) (e2 : beVal ((r.drop 3).take 2) = m2) (e3 : beVal ((r.drop 5).take 1) = m3) (e4 : beVal ((r.drop 6).take 1) = m4) (e5 : beVal ((r.drop 7).take 1) = m5) (hok : Dec.ok ⟨m1, m2, m3, m4, m5⟩ = false) :
    Calls Try.prog 53 #[.string s, .int .i64 at'] w fun e w' => e = .returned (.tuple #[zeroDec, .int .i64 0, .int .i64 57]) ∧ Below w.heap.size w w' := by
  unfold zeroDec
  have hsi : (s.size : Int) ≤ 1000000 := by omega
  have hai : (at' : Int) ≤ (s.size : Int) := by omega
  have hli : ¬ ((s.size : Int) - (at' : Int) < 12) := by omega
  have hin := fun w1 => in_any (at' : Int) 0 (s.size : Int) w1
  have hb : inB (at' : Int) 0 (s.size : Int) = true := by simp [inB]; omega
  rw [hb] at hin
  have HI := Lib.hid hin
  clear hin hb
  obtain ⟨hcp, hmid⟩ := copied_mid w s at' ha
  have HCP := Lib.hid hcp
  have HMID := Lib.hid hmid
  clear hcp hmid
  go_enter Try.func53, Try.ntmps53
  go_wp2_with (go_at_call 67; refine (HI.out _).mono ?_; rintro e w1 ⟨rfl, rfl⟩)
  have hW : (World.heap ((w.alloc (.cells #[.int .i64 0, .int .i64 0, .int .i64 0, .int .i64 0, .int .i64 0] 27)).alloc (.cells #[.int .u8 0, .int .u8 0, .int .u8 0, .int .u8 0, .int .u8 0, .int .u8 0, .int .u8 0, .int .u8 0, .int .u8 0, .int .u8 0, .int .u8 0, .int .u8 0] 87))).size = w.heap.size + 2 := by simp
  generalize ((w.alloc (.cells #[.int .i64 0, .int .i64 0, .int .i64 0, .int .i64 0, .int .i64 0] 27)).alloc (.cells #[.int .u8 0, .int .u8 0, .int .u8 0, .int .u8 0, .int .u8 0, .int .u8 0, .int .u8 0, .int .u8 0, .int .u8 0, .int .u8 0, .int .u8 0, .int .u8 0] 87)) = W2 at *
  go_still_tail 4, (by kernel_rfl)
  change wpList _ _ _ _ _ W2.drew
  refine Lib.wpList_copy_run _ rfl (.tmp 21) (.tmp 24) 60 9 rfl _ _ rfl rfl HCP.out ?_
  have hM := HMID.out
  clear HCP HMID hW HI
  generalize (W2.drew.setCells (w.heap.size + 1) 0 (copied s at')) = W3 at *
  have hlen := recAt_length s at' ha
  rw [hr] at hM hlen
  have hbv := beVal_lt (r.drop 8)
  have hnum := fun n => jnumber_any (w.heap.size + 1) 8 4 (r.drop 8) (W3.drewN n) (by simp; omega) (fun i hi => by have := hM.bytes (8 + i) (by simp at hi; omega); simp only [Nat.zero_add] at this; simpa using this)
  rw [show (r.drop 8).length = 4 from by simp; omega] at hnum hbv
  have hcv : ∀ n, (convert 60 9 (.slice (some ⟨w.heap.size + 1, 0, none⟩) 8 12)).run Try.prog (W3.drewN n) = .ok (.string ⟨(r.take 8).toArray⟩) (W3.drewN n) := by
    intro n
    have := run_convert_bytes_back (P := Try.prog) (W3.drewN n) 60 9 5 ⟨w.heap.size + 1, 0, none⟩ 12 (r.take 8) Try.underlying60 Try.underlying5 Try.underlying9 (fun j hj => by
      have hp : (⟨w.heap.size + 1, 0, none⟩ : Addr).add j = ⟨w.heap.size + 1, 0 + j, none⟩ := by unfold Addr.add; split <;> simp_all
      rw [hp]
      have := hM.bytes j (by simp at hj; omega)
      simpa using this)
    rw [show (r.take 8).length = 8 from by simp; omega] at this
    exact this
  have hsum := fun n => sum4_any ⟨(r.take 8).toArray⟩ (W3.drewN n) (by show (r.take 8).toArray.size ≤ _; simp [maxLen]; omega)
  have hfn : (⟨(r.take 8).toArray⟩ : ByteArray).data.toList = r.take 8 := rfl
  rw [hfn] at hsum
  have hfl := fnv_lt (r.take 8)
  generalize (⟨(r.take 8).toArray⟩ : ByteArray) = bd at *
  generalize beVal (r.drop 8) = N at *
  generalize fnv (r.take 8) = F at *
  have hne : ((N : Int) != (F : Int)) = false := by simp; omega
  have HM := Lib.hid hM
  clear hM hr
  go_wp2_with fail
  go_quiet ((first | (go_at_call 68; exact Calls.quiet_of_same (hnum _)) | (go_at_call 55; exact Calls.quiet_of_same (hsum _))))
  have hM := HM.out.mono (W4 := W3.drewN nq) ⟨rfl, rfl, rfl, Nat.le_refl _, fun _ _ => rfl⟩
  clear HM hcv hnum hsum
  generalize W3.drewN nq = W4 at *
  obtain ⟨v0, h0⟩ := hM.res 0 (by omega)
  obtain ⟨v1, h1⟩ := hM.res 1 (by omega)
  obtain ⟨v2, h2⟩ := hM.res 2 (by omega)
  obtain ⟨v3, h3⟩ := hM.res 3 (by omega)
  obtain ⟨v4, h4⟩ := hM.res 4 (by omega)
  have f0 := hM.rfree 0
  have f1 := hM.rfree 1
  have f2 := hM.rfree 2
  have f3 := hM.rfree 3
  have f4 := hM.rfree 4
  clear hfn hbv hfl hgood
  go_wp2_with fail
  have n1 : ∀ W, Dmid w W r → Calls Try.prog 68 #[.slice (some ⟨w.heap.size + 1, 0, none⟩) 3 12] W fun e w' => e = .returned (.int .i64 m1) ∧ W = w' := by
    intro W hd
    have := jnumber_any (w.heap.size + 1) 0 12 (r.take 3) W (by simp; omega) (by have := part_bytes hd 0 3 (by omega); rw [List.drop_zero] at this; exact this)
    rw [show (r.take 3).length = 3 from by simp; omega, e1] at this
    exact this.mono fun e w' ⟨h1, h2⟩ => ⟨h1, h2.symm⟩
  have n2 : ∀ W, Dmid w W r → Calls Try.prog 68 #[.slice (some ⟨w.heap.size + 1, 3, none⟩) 2 9] W fun e w' => e = .returned (.int .i64 m2) ∧ W = w' := by
    intro W hd
    have := jnumber_any (w.heap.size + 1) 3 9 ((r.drop 3).take 2) W (by simp; omega) (by have := part_bytes hd 3 2 (by omega); exact this)
    rw [show ((r.drop 3).take 2).length = 2 from by simp; omega, e2] at this
    exact this.mono fun e w' ⟨h1, h2⟩ => ⟨h1, h2.symm⟩
  have n3 : ∀ W, Dmid w W r → Calls Try.prog 68 #[.slice (some ⟨w.heap.size + 1, 5, none⟩) 1 7] W fun e w' => e = .returned (.int .i64 m3) ∧ W = w' := by
    intro W hd
    have := jnumber_any (w.heap.size + 1) 5 7 ((r.drop 5).take 1) W (by simp; omega) (by have := part_bytes hd 5 1 (by omega); exact this)
    rw [show ((r.drop 5).take 1).length = 1 from by simp; omega, e3] at this
    exact this.mono fun e w' ⟨h1, h2⟩ => ⟨h1, h2.symm⟩
  have n4 : ∀ W, Dmid w W r → Calls Try.prog 68 #[.slice (some ⟨w.heap.size + 1, 6, none⟩) 1 6] W fun e w' => e = .returned (.int .i64 m4) ∧ W = w' := by
    intro W hd
    have := jnumber_any (w.heap.size + 1) 6 6 ((r.drop 6).take 1) W (by simp; omega) (by have := part_bytes hd 6 1 (by omega); exact this)
    rw [show ((r.drop 6).take 1).length = 1 from by simp; omega, e4] at this
    exact this.mono fun e w' ⟨h1, h2⟩ => ⟨h1, h2.symm⟩
  have n5 : ∀ W, Dmid w W r → Calls Try.prog 68 #[.slice (some ⟨w.heap.size + 1, 7, none⟩) 1 5] W fun e w' => e = .returned (.int .i64 m5) ∧ W = w' := by
    intro W hd
    have := jnumber_any (w.heap.size + 1) 7 5 ((r.drop 7).take 1) W (by simp; omega) (by have := part_bytes hd 7 1 (by omega); exact this)
    rw [show ((r.drop 7).take 1).length = 1 from by simp; omega, e5] at this
    exact this.mono fun e w' ⟨h1, h2⟩ => ⟨h1, h2.symm⟩
  have HV := Lib.hid (fun w1 => jvalid_any ⟨m1, m2, m3, m4, m5⟩ w1)
  rw [hok] at HV
  unfold Dec.val at HV
  clear e1 e2 e3 e4 e5
  clear hok hlen
  have HM := Lib.hid hM
  have N1 := Lib.hid n1
  have N2 := Lib.hid n2
  have N3 := Lib.hid n3
  have N4 := Lib.hid n4
  have N5 := Lib.hid n5
  have hs4 := hM.size
  clear hM n1 n2 n3 n4 n5
  go_region_held3 (fun w' => Dmid w w' r)
    ((refine HM.out.mono ?_; (repeat' (first | exact Below.refl _ _ | refine Below.drew ?_ | (refine Below.alloc ?_ (by simp) _) | (refine Below.setCell ?_ (by simp) _)))))
    (first | (go_at_call 68; (first | (with_reducible refine (N1.out _ ?_).mono ?_) | (with_reducible refine (N2.out _ ?_).mono ?_) | (with_reducible refine (N3.out _ ?_).mono ?_) | (with_reducible refine (N4.out _ ?_).mono ?_) | (with_reducible refine (N5.out _ ?_).mono ?_)); assumption; rintro e w1 ⟨rfl, rfl⟩))
  all_goals
    have hM5 : Dmid w ((W4.alloc (.cells #[.int .i64 m1, .int .i64 m2, .int .i64 m3, .int .i64 m4, .int .i64 m5] 27)).drew) r := by assumption
    have c0 : World.cell? ((W4.alloc (.cells #[.int .i64 m1, .int .i64 m2, .int .i64 m3, .int .i64 m4, .int .i64 m5] 27)).drew) ⟨W4.heap.size, 0, none⟩ = some (.int .i64 m1) := World.cell?_alloc_at _ _ _ _ rfl
    have c1 : World.cell? ((W4.alloc (.cells #[.int .i64 m1, .int .i64 m2, .int .i64 m3, .int .i64 m4, .int .i64 m5] 27)).drew) ⟨W4.heap.size, 1, none⟩ = some (.int .i64 m2) := World.cell?_alloc_at _ _ _ _ rfl
    have c2 : World.cell? ((W4.alloc (.cells #[.int .i64 m1, .int .i64 m2, .int .i64 m3, .int .i64 m4, .int .i64 m5] 27)).drew) ⟨W4.heap.size, 2, none⟩ = some (.int .i64 m3) := World.cell?_alloc_at _ _ _ _ rfl
    have c3 : World.cell? ((W4.alloc (.cells #[.int .i64 m1, .int .i64 m2, .int .i64 m3, .int .i64 m4, .int .i64 m5] 27)).drew) ⟨W4.heap.size, 3, none⟩ = some (.int .i64 m4) := World.cell?_alloc_at _ _ _ _ rfl
    have c4 : World.cell? ((W4.alloc (.cells #[.int .i64 m1, .int .i64 m2, .int .i64 m3, .int .i64 m4, .int .i64 m5] 27)).drew) ⟨W4.heap.size, 4, none⟩ = some (.int .i64 m5) := World.cell?_alloc_at _ _ _ _ rfl
    have hz5 : W4.heap.size < (World.heap ((W4.alloc (.cells #[.int .i64 m1, .int .i64 m2, .int .i64 m3, .int .i64 m4, .int .i64 m5] 27)).drew)).size := by simp
    have HM5 := Lib.hid hM5
    clear hM5 h0 h1 h2 h3 h4 f0 f1 f2 f3 f4 N1 N2 N3 N4 N5
    generalize (W4.alloc (.cells #[.int .i64 m1, .int .i64 m2, .int .i64 m3, .int .i64 m4, .int .i64 m5] 27)).drew = W5 at *
    go_wp2_with fail
    refine (HV.out _).mono ?_
    rintro e W6 ⟨rfl, hb6⟩
    have hM6 := HM5.out.mono hb6
    replace c0 := (hb6.cell (p := ⟨W4.heap.size, 0, none⟩) hz5).trans c0
    replace c1 := (hb6.cell (p := ⟨W4.heap.size, 1, none⟩) hz5).trans c1
    replace c2 := (hb6.cell (p := ⟨W4.heap.size, 2, none⟩) hz5).trans c2
    replace c3 := (hb6.cell (p := ⟨W4.heap.size, 3, none⟩) hz5).trans c3
    replace c4 := (hb6.cell (p := ⟨W4.heap.size, 4, none⟩) hz5).trans c4
    obtain ⟨v0, h0⟩ := hM6.res 0 (by omega)
    obtain ⟨v1, h1⟩ := hM6.res 1 (by omega)
    obtain ⟨v2, h2⟩ := hM6.res 2 (by omega)
    obtain ⟨v3, h3⟩ := hM6.res 3 (by omega)
    obtain ⟨v4, h4⟩ := hM6.res 4 (by omega)
    have f0 := hM6.rfree 0
    have f1 := hM6.rfree 1
    have f2 := hM6.rfree 2
    have f3 := hM6.rfree 3
    have f4 := hM6.rfree 4
    obtain ⟨q0, q1, q2, q3, q4⟩ := five_cells W6 w.heap.size (.int .i64 0) (.int .i64 0) (.int .i64 0) (.int .i64 0) (.int .i64 0) hM6.res
    have hB : Below w.heap.size w (((((W6.setCell ⟨w.heap.size, 0, none⟩ (.int .i64 0)).setCell ⟨w.heap.size, 1, none⟩ (.int .i64 0)).setCell ⟨w.heap.size, 2, none⟩ (.int .i64 0)).setCell ⟨w.heap.size, 3, none⟩ (.int .i64 0)).setCell ⟨w.heap.size, 4, none⟩ (.int .i64 0)) :=
      ((((hM6.below.setCell (Nat.le_refl _) _).setCell (Nat.le_refl _) _).setCell (Nat.le_refl _) _).setCell (Nat.le_refl _) _).setCell (Nat.le_refl _) _
    have Q0 := Lib.hid q0
    have Q1 := Lib.hid q1
    have Q2 := Lib.hid q2
    have Q3 := Lib.hid q3
    have Q4 := Lib.hid q4
    have HB := Lib.hid hB
    clear q0 q1 q2 q3 q4 hB hM6 hb6
    go_wp2_with fail
    have q0 := Q0.out
    have q1 := Q1.out
    have q2 := Q2.out
    have q3 := Q3.out
    have q4 := Q4.out
    exact bodyPost_ret (v := .tuple #[.agg #[.int .i64 0, .int .i64 0, .int .i64 0, .int .i64 0, .int .i64 0], .int .i64 0, .int .i64 57]) (by simp [results, Try.results53, go_sem, q0, q1, q2, q3, q4]) rfl ⟨rfl, HB.out⟩
end Go.Proofs.Ytpjcaanlagibpaa

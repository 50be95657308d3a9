import Derived.Test.YtpjcaanlagibpaaAll
namespace Go.Proofs.Ytpjcaanlagibpaa
open Go.RowKit
set_option linter.unusedSimpArgs false
set_option linter.unusedVariables false

set_option maxRecDepth 100000 in
set_option maxHeartbeats 8000000 in
theorem all_heavy (a : Option Addr) (len cap : Nat) (r : Dec) (torn : ByteArray) (safe at' by' : Int) (w : World) (hl : 400 < len ∨ 300 < torn.size) (hm : (len : Int) ≤ 9223372036854775807) (hm2 : (torn.size : Int) ≤ 9223372036854775807) :
    Calls Try.prog 9 #[.slice a len cap, r.val, .string torn, .int .i64 safe, .int .i64 at', .int .i64 by'] w fun e w' => e = .returned (.bool true) ∧ Below w.heap.size w w' := by
  have h1 := fun w1 => light_any a len cap w1 hm
  have H1 := Lib.hid h1
  clear h1
  unfold Dec.val
  by_cases hc : len ≤ 400
  · have hd : decide (len ≤ 400) = true := decide_eq_true hc
    rw [hd] at H1
    have ht : (300 : Int) < (torn.size : Int) := by omega
    go_enter Try.func9, Try.ntmps9
    go_wp2_with fail
    refine (H1.out _).mono ?_
    rintro e w1 ⟨rfl, rfl⟩
    go_wp2_with (go_at_call 38; refine (awake_any _).mono ?_; rintro e w1 ⟨rfl, hb⟩)
    go_ret
    exact ⟨rfl, ((Below.refl _ _).alloc (Nat.le_refl _) _).trans (hb.mono (by simp))⟩
  · have hd : decide (len ≤ 400) = false := decide_eq_false hc
    rw [hd] at H1
    go_enter Try.func9, Try.ntmps9
    go_wp2_with fail
    refine (H1.out _).mono ?_
    rintro e w1 ⟨rfl, rfl⟩
    go_wp2_with (go_at_call 38; refine (awake_any _).mono ?_; rintro e w1 ⟨rfl, hb⟩)
    go_ret
    exact ⟨rfl, ((Below.refl _ _).alloc (Nat.le_refl _) _).trans (hb.mono (by simp))⟩

theorem keep5 {p B : Nat} {w3 v : World} {x0 x1 x2 x3 x4 : Value} (hB : B ≠ p) (hlt : B < w3.heap.size) (r0 : w3.cell? ⟨B, 0, none⟩ = some x0) (r1 : w3.cell? ⟨B, 1, none⟩ = some x1) (r2 : w3.cell? ⟨B, 2, none⟩ = some x2) (r3 : w3.cell? ⟨B, 3, none⟩ = some x3) (r4 : w3.cell? ⟨B, 4, none⟩ = some x4) (hK : Dg p w3 v) (o : Obj) :
    (v.alloc o).cell? ⟨B, 0, none⟩ = some x0 ∧ (v.alloc o).cell? ⟨B, 1, none⟩ = some x1 ∧ (v.alloc o).cell? ⟨B, 2, none⟩ = some x2 ∧ (v.alloc o).cell? ⟨B, 3, none⟩ = some x3 ∧ (v.alloc o).cell? ⟨B, 4, none⟩ = some x4 ∧ Dg p w3 (v.alloc o) := by
  have hK2 : Dg p w3 (v.alloc o) := hK.trans (Dg.of_below ((Below.refl _ _).alloc (Nat.le_refl _) o) hK.dice)
  exact ⟨(hK2.cell (x := ⟨B, 0, none⟩) hB hlt).trans r0, (hK2.cell (x := ⟨B, 1, none⟩) hB hlt).trans r1, (hK2.cell (x := ⟨B, 2, none⟩) hB hlt).trans r2, (hK2.cell (x := ⟨B, 3, none⟩) hB hlt).trans r3, (hK2.cell (x := ⟨B, 4, none⟩) hB hlt).trans r4, hK2⟩

theorem decision_zero (p : Nat) (w : World) (h : DiceAt w p) :
    Calls Try.prog 17 #[.pointer (some ⟨p, 0, none⟩), .agg #[.int .i64 0, .int .i64 0, .int .i64 0, .int .i64 0, .int .i64 0]] w fun e w' => (∃ q : Dec, e = .returned (.agg #[.int .i64 q.day, .int .i64 q.known, .int .i64 q.kind, .int .i64 q.subject, .int .i64 q.value])) ∧ Dg p w w' := by
  have := decision_any p 0 0 0 0 0 w h (by omega) (by omega)
  refine Calls.mono this ?_
  rintro e w' ⟨⟨a', k', c', s', x', hb, rfl⟩, hG⟩
  exact ⟨⟨_, rfl⟩, hG⟩

set_option maxRecDepth 100000 in
set_option maxHeartbeats 8000000 in
theorem all_light (a : Option Addr) (len cap : Nat) (r : Dec) (torn : ByteArray) (safe at' by' : Int) (w : World) (hl : len ≤ 400) (ht : torn.size ≤ 300) (hr : RowAt w w.heap.size a len)
    (hs1 : -9223372036854775808 ≤ safe ∧ safe ≤ 9223372036854775807) (ha1 : -9223372036854775808 ≤ at' ∧ at' ≤ 9223372036854775807) (hb1 : -9223372036854775808 ≤ by' ∧ by' ≤ 9223372036854775807) :
    Calls Try.prog 9 #[.slice a len cap, r.val, .string torn, .int .i64 safe, .int .i64 at', .int .i64 by'] w fun e w' => e = .returned (.bool true) ∧ Below w.heap.size w w' := by
  have hd : decide (len ≤ 400) = true := decide_eq_true hl
  have hti : (torn.size : Int) ≤ 300 := by omega
  unfold Dec.val
  have hbx : Below w.heap.size w (w.alloc (.cells #[.int .i64 r.day, .int .i64 r.known, .int .i64 r.kind, .int .i64 r.subject, .int .i64 r.value] 27)) := (Below.refl _ _).alloc (Nat.le_refl _) _
  have hrd : DecAt (w.alloc (.cells #[.int .i64 r.day, .int .i64 r.known, .int .i64 r.kind, .int .i64 r.subject, .int .i64 r.value] 27)) w.heap.size 0 r := ⟨World.cell?_alloc_at _ _ _ _ rfl, World.cell?_alloc_at _ _ _ _ rfl, World.cell?_alloc_at _ _ _ _ rfl, World.cell?_alloc_at _ _ _ _ rfl, World.cell?_alloc_at _ _ _ _ rfl⟩
  have hz : (w.alloc (.cells #[.int .i64 r.day, .int .i64 r.known, .int .i64 r.kind, .int .i64 r.subject, .int .i64 r.value] 27)).heap.size = w.heap.size + 1 := by simp
  have hr2 : RowAt (w.alloc (.cells #[.int .i64 r.day, .int .i64 r.known, .int .i64 r.kind, .int .i64 r.subject, .int .i64 r.value] 27)) (w.alloc (.cells #[.int .i64 r.day, .int .i64 r.known, .int .i64 r.kind, .int .i64 r.subject, .int .i64 r.value] 27)).heap.size a len := by
    have := hr.below hbx
    rw [hz]
    rcases this with h | ⟨b, off, h1, h2, h3⟩
    · exact .inl h
    · exact .inr ⟨b, off, h1, by omega, h3⟩
  have H1 := Lib.hid (fun w1 => light_any a len cap w1 (by omega))
  rw [hd] at H1
  have H2 := Lib.hid (roll_any a len cap _ hl hr2)
  have HX := Lib.hid hbx
  have HD := Lib.hid hrd
  have HZ := Lib.hid hz
  clear hr hd hbx hrd hz hr2
  go_enter Try.func9, Try.ntmps9
  go_wp2_with fail
  generalize (w.alloc (.cells #[.int .i64 r.day, .int .i64 r.known, .int .i64 r.kind, .int .i64 r.subject, .int .i64 r.value] 27)) = W0 at *
  refine (H1.out _).mono ?_
  rintro e w1 ⟨rfl, rfl⟩
  go_wp2_with fail
  refine H2.out.mono ?_
  rintro e w1 ⟨rfl, hb1', hz1, hd1⟩
  have hp : W0.heap.size = w.heap.size + 1 := HZ.out
  have hbw1 := HX.out.trans (hb1'.mono (by omega))
  have hrd1 := HD.out.of_cells (w' := w1) (fun o => hb1'.cell (p := ⟨w.heap.size, o, none⟩) (by show w.heap.size < _; omega))
  clear H1 H2 HX HD
  have H3 := Lib.hid (ledger_any W0.heap.size 6 w1 hd1 (by omega))
  clear hd1 hp
  go_wp2_with fail
  refine H3.out.mono ?_
  rintro e w2 ⟨v, ds, rfl, hoks, hlen, hown, hdg⟩
  have hp : W0.heap.size = w.heap.size + 1 := HZ.out
  have hdice := hdg.dice
  have hbw2 := hbw1.trans (hdg.below (by omega) hbw1.size)
  have hrd2 := hrd1.of_cells (w' := w2) (fun o => hdg.cell (x := ⟨w.heap.size, o, none⟩) (by show w.heap.size ≠ _; omega) (by show w.heap.size < _; omega))
  have hok : ∀ d ∈ ds, d.ok = true := fun d hd => hoks.ok hd
  have hsd := hown.slice
  have H4 := Lib.hid (written_any v ds w2 hsd hok (by omega))
  obtain ⟨ad, n, m, rfl⟩ := hown.slice_val
  have hsz2 := hdice.1
  clear hown hsd hdg hbw1 hrd1 H3 hb1' hp
  go_wp2_with fail
  refine H4.out.mono ?_
  rintro e w3 ⟨rfl, hb3⟩
  have hp : W0.heap.size = w.heap.size + 1 := HZ.out
  have hdice3 := hdice.below (hb3.mono (by omega))
  have hbw3 := hbw2.trans (hb3.mono hbw2.size)
  have hrd3 := hrd2.of_cells (w' := w3) (fun o => hb3.cell (p := ⟨w.heap.size, o, none⟩) (by show w.heap.size < _; omega))
  have hrl := recsOf_length ds
  clear hdice hbw2 hrd2 hb3 hsz2 H4 hp
  go_wp2_with fail
  obtain ⟨r0, r1, r2, r3, r4⟩ := hrd3
  simp only [Nat.zero_add] at r0 r1 r2 r3 r4
  have hzz := HZ.out
  have hB2 : w.heap.size ≠ W0.heap.size := by omega
  have hlt3 : w.heap.size < w3.heap.size := by have := hdice3.1; omega
  clear hzz hz1
  have hK : Dg W0.heap.size w3 w3.drew := (Dg.refl hdice3).trans (Dg.of_below ((Below.refl _ _).drew) hdice3)
  go_region_held3 (fun w' => w'.cell? ⟨w.heap.size, 0, none⟩ = some (.int .i64 r.day) ∧ w'.cell? ⟨w.heap.size, 1, none⟩ = some (.int .i64 r.known) ∧ w'.cell? ⟨w.heap.size, 2, none⟩ = some (.int .i64 r.kind) ∧ w'.cell? ⟨w.heap.size, 3, none⟩ = some (.int .i64 r.subject) ∧ w'.cell? ⟨w.heap.size, 4, none⟩ = some (.int .i64 r.value) ∧ Dg W0.heap.size w3 w')
    (first | exact ⟨(hK.cell (x := ⟨w.heap.size, 0, none⟩) hB2 hlt3).trans r0, (hK.cell (x := ⟨w.heap.size, 1, none⟩) hB2 hlt3).trans r1, (hK.cell (x := ⟨w.heap.size, 2, none⟩) hB2 hlt3).trans r2, (hK.cell (x := ⟨w.heap.size, 3, none⟩) hB2 hlt3).trans r3, (hK.cell (x := ⟨w.heap.size, 4, none⟩) hB2 hlt3).trans r4, hK⟩ | exact keep5 hB2 hlt3 r0 r1 r2 r3 r4 hK _)
    (first | (go_at_call 17; refine (decision_zero _ _ hK.dice).mono ?_; (rintro e v ⟨⟨q, rfl⟩, hk⟩; have hK := hK.trans hk)))
  have hzz := HZ.out
  have hbv : Below w.heap.size w v := hbw3.trans (hK.below (by omega) (by omega))
  have hb4 : Below w.heap.size w (v.alloc (.cells #[.int .i64 r.day, .int .i64 r.known, .int .i64 r.kind, .int .i64 r.subject, .int .i64 r.value, .int .i64 q.day, .int .i64 q.known, .int .i64 q.kind, .int .i64 q.subject, .int .i64 q.value, .int .i64 40000, .int .i64 400, .int .i64 5, .int .i64 40, .int .i64 1] 27)) := hbv.alloc hbv.size _
  have hda : DecsAt (v.alloc (.cells #[.int .i64 r.day, .int .i64 r.known, .int .i64 r.kind, .int .i64 r.subject, .int .i64 r.value, .int .i64 q.day, .int .i64 q.known, .int .i64 q.kind, .int .i64 q.subject, .int .i64 q.value, .int .i64 40000, .int .i64 400, .int .i64 5, .int .i64 40, .int .i64 1] 27)) v.heap.size 0 [r, q, ⟨40000, 400, 5, 40, 1⟩] := by
    intro i hi
    have e : i = 0 ∨ i = 1 ∨ i = 2 := by simp at hi; omega
    rcases e with rfl | rfl | rfl <;> exact ⟨World.cell?_alloc_at _ _ _ _ rfl, World.cell?_alloc_at _ _ _ _ rfl, World.cell?_alloc_at _ _ _ _ rfl, World.cell?_alloc_at _ _ _ _ rfl, World.cell?_alloc_at _ _ _ _ rfl⟩
  have hg4 : v.heap.size < ((v.alloc (.cells #[.int .i64 r.day, .int .i64 r.known, .int .i64 r.kind, .int .i64 r.subject, .int .i64 r.value, .int .i64 q.day, .int .i64 q.known, .int .i64 q.kind, .int .i64 q.subject, .int .i64 q.value, .int .i64 40000, .int .i64 400, .int .i64 5, .int .i64 40, .int .i64 1] 27))).heap.size := by simp
  have HB4 := Lib.hid hb4
  have HDA := Lib.hid hda
  have HOK := Lib.hid hok
  have HRL := Lib.hid hrl
  clear hzz hbv hb4 hda hK hbw3 hdice3 r0 r1 r2 r3 r4 hB2 hlt3 hok hoks hrl HZ
  go_wp2_with fail
  generalize (v.alloc (.cells #[.int .i64 r.day, .int .i64 r.known, .int .i64 r.kind, .int .i64 r.subject, .int .i64 r.value, .int .i64 q.day, .int .i64 q.known, .int .i64 q.kind, .int .i64 q.subject, .int .i64 q.value, .int .i64 40000, .int .i64 400, .int .i64 5, .int .i64 40, .int .i64 1] 27)) = W4 at *
  generalize v.heap.size = GA at *
  have hL3 : ([r, q, ⟨40000, 400, 5, 40, 1⟩] : List Dec).length = 3 := rfl
  generalize ([r, q, ⟨40000, 400, 5, 40, 1⟩] : List Dec) = L3 at *
  go_loopw [16, 17, 18, 19, 20, 21, 22, 23, 24, 69] (fun _ _ _ _ _ _ _ _ _ i wr => ∃ k : Nat, k ≤ 3 ∧ i = .int .i64 k ∧ Below W4.heap.size W4 wr) (fun _ _ _ _ _ _ _ _ _ i _ => 3 - (intOf i).toNat)
  case atStart => exact ⟨0, by omega, rfl, Below.refl _ _⟩
  case round =>
    obtain ⟨k, hk, rfl, hbe⟩ := hrel
    by_cases hlt : k < 3
    · obtain ⟨c0, c1, c2, c3, c4⟩ := (HDA.out k (by omega)).of_cells (w' := wr) (fun o => hbe.cell (p := ⟨GA, o, none⟩) hg4)
      simp only [Nat.zero_add] at c0 c1 c2 c3 c4
      have hlti : (k : Int) < 3 := by omega
      have hgw : GA < wr.heap.size := Nat.lt_of_lt_of_le hg4 hbe.size
      generalize L3[k]'(by omega) = d at *
      have E1 := Lib.hid (fun w1 => encode_any d w1)
      have E2 := Lib.hid (fun w1 => refencode_any d w1)
      have E3 := Lib.hid (fun w1 => jappend_any (recsOf ds) d w1 (by rw [HRL.out]; omega))
      have E4 := Lib.hid (fun w1 => rappend_any (recsOf ds) d w1 (by rw [HRL.out]; omega))
      unfold Dec.val at E1 E2 E3 E4
      generalize encF d = eF at *
      generalize encE d = eE at *
      generalize appF (recsOf ds) d = aF at *
      have hA0 : Below wr.heap.size wr (wr.alloc (.cells #[.int .i64 d.day, .int .i64 d.known, .int .i64 d.kind, .int .i64 d.subject, .int .i64 d.value] 27)) := (Below.refl _ _).alloc (Nat.le_refl _) _
      have HC := Lib.hid (show ∀ W, Below (wr.alloc (.cells #[.int .i64 d.day, .int .i64 d.known, .int .i64 d.kind, .int .i64 d.subject, .int .i64 d.value] 27)).heap.size (wr.alloc (.cells #[.int .i64 d.day, .int .i64 d.known, .int .i64 d.kind, .int .i64 d.subject, .int .i64 d.value] 27)) W → DecAt W wr.heap.size 0 d ∧ Below W4.heap.size W4 W from fun W hW => ⟨DecAt.of_cells (w := wr.alloc (.cells #[.int .i64 d.day, .int .i64 d.known, .int .i64 d.kind, .int .i64 d.subject, .int .i64 d.value] 27)) ⟨World.cell?_alloc_at _ _ _ _ rfl, World.cell?_alloc_at _ _ _ _ rfl, World.cell?_alloc_at _ _ _ _ rfl, World.cell?_alloc_at _ _ _ _ rfl, World.cell?_alloc_at _ _ _ _ rfl⟩ (fun o => hW.cell (p := ⟨wr.heap.size, o, none⟩) (by simp)), (hbe.trans (hA0.mono hbe.size)).trans (hW.mono (Nat.le_trans hbe.size (by simp)))⟩)
      clear hbe hA0
      go_wp2_with fail
      generalize (wr.alloc (.cells #[.int .i64 d.day, .int .i64 d.known, .int .i64 d.kind, .int .i64 d.subject, .int .i64 d.value] 27)) = WA at *
      refine (E1.out _).mono ?_
      rintro e x1 ⟨rfl, hx1⟩
      obtain ⟨⟨a0, a1, a2, a3, a4⟩, _⟩ := HC.out x1 hx1
      simp only [Nat.zero_add] at a0 a1 a2 a3 a4
      clear c0 c1 c2 c3 c4
      have HX1 := Lib.hid hx1
      clear hx1
      go_wp2_with fail
      refine (E2.out _).mono ?_
      rintro e x2 ⟨rfl, hx2⟩
      have hx2' := HX1.out.trans (hx2.mono HX1.out.size)
      clear a0 a1 a2 a3 a4 hx2 HX1
      obtain ⟨⟨a0, a1, a2, a3, a4⟩, _⟩ := HC.out x2 hx2'
      simp only [Nat.zero_add] at a0 a1 a2 a3 a4
      have HX2 := Lib.hid hx2'
      clear hx2'
      go_wp2_with fail
      refine (E3.out _).mono ?_
      rintro e x3 ⟨rfl, hx3⟩
      have hx3' := HX2.out.trans (hx3.mono HX2.out.size)
      clear a0 a1 a2 a3 a4 hx3 HX2
      obtain ⟨⟨a0, a1, a2, a3, a4⟩, _⟩ := HC.out x3 hx3'
      simp only [Nat.zero_add] at a0 a1 a2 a3 a4
      have HX3 := Lib.hid hx3'
      clear hx3'
      go_wp2_with fail
      refine (E4.out _).mono ?_
      rintro e x4 ⟨rfl, hx4⟩
      have hx4' := HX3.out.trans (hx4.mono HX3.out.size)
      have HF := Lib.hid (HC.out x4 hx4').2
      clear a0 a1 a2 a3 a4 hx4 hx4' HX3 HC E1 E2 E3 E4
      go_wp2_with fail
      exact ⟨⟨k + 1, by omega, by go_num, HF.out⟩, by simp [intOf]; omega⟩
    · have hkk : k = 3 := by omega
      subst hkk
      have hsz : ByteArray.size ⟨(recsOf ds).toArray⟩ = 12 * ds.length := by rw [bytes_size, HRL.out]
      have hb5 := HB4.out.trans (hbe.mono HB4.out.size)
      have HB5 := Lib.hid hb5
      generalize (⟨(recsOf ds).toArray⟩ : ByteArray) = s at *
      have hss : s.size ≤ 72 := by omega
      have hsi : (s.size : Int) ≤ 72 := by omega
      have hNC := Lib.hid (fun w1 => bytes_new s w1)
      clear hbe hb5 HB4 HDA HRL hsz hlen hL3 hg4 hk hlt HOK
      go_wp2_with fail
      obtain ⟨cap', W5, hrun, hbl, hvs, hcell, hfree⟩ := hNC.out wr
      rw [hrun]
      have HCell := Lib.hid hcell
      have HF := Lib.hid hfree
      have HBL := Lib.hid hbl
      have HVS := Lib.hid hvs
      clear hrun hcell hfree hbl hvs hNC
      have hms := fun w1 => mod_any' safe ((s.size : Int) + 2) w1 hs1 (by omega) (by omega)
      have HMS := Lib.hid hms
      clear hms
      rcases Nat.eq_zero_or_pos s.size with h0 | h0
      case' inl =>
        have hll : s.data.toList.length = s.size := Array.length_toList
        have hf0 : ¬ (0 : Int) < (s.size : Int) := by omega
        have hlb : ∃ lb : List UInt8, lb.length = s.size ∧ ∀ j (h : j < lb.length), W5.cell? ⟨wr.heap.size, j, none⟩ = some (.int .u8 (lb[j].toNat : Int)) := ⟨s.data.toList, hll, HCell.out⟩
        have hb6 := HB5.out.trans (HBL.out.mono HB5.out.size)
        have hz6 : wr.heap.size < W5.heap.size := HVS.out
        have HLB := Lib.hid hlb
        have HB6 := Lib.hid hb6
        have HZ6 := Lib.hid hz6
        clear hlb hb6 hz6 hll HF HCell HBL HVS HB5 h0
        go_wp2_with fail
        clear hf0
        generalize wr.heap.size = B25 at *
        clear wr
        generalize W5 = W6 at *
        clear W5
      case' inr =>
        have hm := fun w1 => mod_any' at' (s.size : Int) w1 ha1 (by omega) (by omega)
        obtain ⟨i, hi⟩ := Int.eq_ofNat_of_zero_le (Int.emod_nonneg at' (show (s.size : Int) ≠ 0 by omega))
        have hlt := Int.emod_lt_of_pos at' (show (0 : Int) < (s.size : Int) by omega)
        rw [hi] at hlt
        simp only [hi] at hm
        have hlt2 : i < s.size := by omega
        have hii : (i : Int) < (s.size : Int) := by omega
        have hpos : (0 : Int) < (s.size : Int) := by omega
        have HM := Lib.hid hm
        obtain ⟨c, hcc⟩ : ∃ c, s.data.toList[i]'(by rw [Array.length_toList]; exact hlt2) = c := ⟨_, rfl⟩
        have hc1 := HCell.out i (by rw [Array.length_toList]; exact hlt2)
        have hf1 := HF.out i hlt2
        rw [hcc] at hc1
        have hcb := c.toNat_lt
        clear hcc hm hi hlt
        go_wp2_with fail
        refine (HM.out _).mono ?_
        rintro e w5 ⟨rfl, rfl⟩
        go_wp2_with fail
        have hlb : ∃ lb : List UInt8, lb.length = s.size ∧ ∀ j (h : j < lb.length), World.cell? (w5.setCell ⟨wr.heap.size, i, none⟩ (.int .u8 (((c.toNat : Int) + by') % 256))) ⟨wr.heap.size, j, none⟩ = some (.int .u8 (lb[j].toNat : Int)) := by
          have hll : s.data.toList.length = s.size := Array.length_toList
          refine ⟨s.data.toList.set i (UInt8.ofNat (((c.toNat : Int) + by') % 256).toNat), by rw [List.length_set, hll], ?_⟩
          intro j hj
          have h1 : 0 ≤ ((c.toNat : Int) + by') % 256 := Int.emod_nonneg _ (by decide)
          have h2 : ((c.toNat : Int) + by') % 256 < 256 := Int.emod_lt_of_pos _ (by decide)
          rw [List.getElem_set]
          by_cases hj2 : i = j
          · subst hj2
            rw [World.cell?_setCell_same (h := hc1), if_pos rfl]
            generalize ((c.toNat : Int) + by') % 256 = z at *
            have h3 : (UInt8.ofNat z.toNat).toNat = z.toNat := by
              rw [UInt8.toNat_ofNat']
              omega
            rw [h3]
            have h4 : ((z.toNat : Nat) : Int) = z := by omega
            rw [h4]
          · rw [World.cell?_setCell_other (h := by intro he; injection he with h1 h2 h3; exact hj2 h2), if_neg hj2]
            exact HCell.out j (by rw [List.length_set] at hj; exact hj)
        have hb6 := (HB5.out.trans (HBL.out.mono HB5.out.size)).setCell (p := ⟨wr.heap.size, i, none⟩) HB5.out.size (.int .u8 (((c.toNat : Int) + by') % 256))
        have hz6 : wr.heap.size < (w5.setCell ⟨wr.heap.size, i, none⟩ (.int .u8 (((c.toNat : Int) + by') % 256))).heap.size := by rw [World.size_setCell]; exact HVS.out
        have HLB := Lib.hid hlb
        have HB6 := Lib.hid hb6
        have HZ6 := Lib.hid hz6
        clear hlb hb6 hz6 HM hc1 hf1 hcb hii hpos hlt2 HF HCell HBL HVS HB5 h0
        generalize w5.setCell ⟨wr.heap.size, i, none⟩ (.int .u8 (((c.toNat : Int) + by') % 256)) = W6 at *
        generalize wr.heap.size = B25 at *
        clear wr w5
      all_goals
        refine (HMS.out _).mono ?_
        rintro e x6 ⟨rfl, rfl⟩
        obtain ⟨lb, hlbl, hlb⟩ := HLB.out
        have HBY := Lib.hid hlb
        have HLL := Lib.hid hlbl
        clear hlb hlbl HLB HMS
        generalize safe % ((s.size : Int) + 2) = n2 at *
        have hw7 := HB6.out.alloc (o := .cells #[.int .i64 safe, .int .i64 n2] 3) HB6.out.size
        have hk7 : Below x6.heap.size x6 (x6.alloc (.cells #[.int .i64 safe, .int .i64 n2] 3)) := (Below.refl _ _).alloc (Nat.le_refl _) _
        have hc7 : ∀ k, k < 2 → ∃ N : Int, (x6.alloc (.cells #[.int .i64 safe, .int .i64 n2] 3)).cell? ⟨x6.heap.size, k, none⟩ = some (.int .i64 N) := by
          intro k hk
          have e : k = 0 ∨ k = 1 := by omega
          rcases e with rfl | rfl <;> exact ⟨_, World.cell?_alloc_at _ _ _ _ rfl⟩
        have hz7 : x6.heap.size < (x6.alloc (.cells #[.int .i64 safe, .int .i64 n2] 3)).heap.size := by simp
        have hy7 : B25 < (x6.alloc (.cells #[.int .i64 safe, .int .i64 n2] 3)).heap.size := Nat.lt_of_lt_of_le HZ6.out hk7.size
        have HBY7 := Lib.hid (fun j (h : j < lb.length) => (hk7.cell (p := ⟨B25, j, none⟩) HZ6.out).trans (HBY.out j h))
        have HW7 := Lib.hid hw7
        have HC7 := Lib.hid hc7
        clear hw7 hk7 hc7 HBY HB6 HZ6
        go_wp2_with fail
        generalize x6.alloc (.cells #[.int .i64 safe, .int .i64 n2] 3) = W7 at *
        generalize x6.heap.size = GB at *
        clear x6
        go_loopw [138] (fun i wr => ∃ k : Nat, k ≤ 2 ∧ i = .int .i64 k ∧ Below W7.heap.size W7 wr) (fun i _ => 2 - (intOf i).toNat)
        case atStart => exact ⟨0, by omega, rfl, Below.refl _ _⟩
        case round =>
          obtain ⟨k, hk, rfl, hbe⟩ := hrel
          by_cases hlt : k < 2
          · obtain ⟨N, hN⟩ := HC7.out k hlt
            have hN2 := (hbe.cell (p := ⟨GB, k, none⟩) hz7).trans hN
            have hlti : (k : Int) < 2 := by omega
            have hgw : GB < wr.heap.size := Nat.lt_of_lt_of_le hz7 hbe.size
            have HBE := Lib.hid hbe
            clear hN hbe HC7
            go_wp2_with fail
            have hcv := run_convert_bytes_back (P := Try.prog) wr 60 9 5 ⟨B25, 0, none⟩ cap' lb Try.underlying60 Try.underlying5 Try.underlying9 (fun j hj => by
              have hpp : (⟨B25, 0, none⟩ : Addr).add j = ⟨B25, j, none⟩ := by unfold Addr.add; split <;> simp_all
              rw [hpp, HBE.out.cell (p := ⟨B25, j, none⟩) hy7]
              exact HBY7.out j hj)
            rw [HLL.out] at hcv
            rw [hcv]
            have hsb : (⟨lb.toArray⟩ : ByteArray).size ≤ 72 := by rw [bytes_size, HLL.out]; exact hss
            generalize (⟨lb.toArray⟩ : ByteArray) = sb at *
            clear hcv hN2 hgw
            have hk8 : Below wr.heap.size wr (wr.alloc (.cells #[.string torn, .string ⟨#[]⟩, .string sb] 9)) := (Below.refl _ _).alloc (Nat.le_refl _) _
            have hc8 : ∀ k, k < 3 → ∃ T : ByteArray, T.size ≤ 300 ∧ (wr.alloc (.cells #[.string torn, .string ⟨#[]⟩, .string sb] 9)).cell? ⟨wr.heap.size, k, none⟩ = some (.string T) := by
              intro k hk
              have e : k = 0 ∨ k = 1 ∨ k = 2 := by omega
              rcases e with rfl | rfl | rfl
              · exact ⟨torn, ht, World.cell?_alloc_at _ _ _ _ rfl⟩
              · exact ⟨⟨#[]⟩, by decide, World.cell?_alloc_at _ _ _ _ rfl⟩
              · exact ⟨sb, by omega, World.cell?_alloc_at _ _ _ _ rfl⟩
            have hz8 : wr.heap.size < (wr.alloc (.cells #[.string torn, .string ⟨#[]⟩, .string sb] 9)).heap.size := by simp
            have HC8 := Lib.hid hc8
            have HK8 := Lib.hid (HBE.out.trans (hk8.mono HBE.out.size))
            clear hk8 hc8 HBE HLL
            go_wp2_with fail
            generalize wr.alloc (.cells #[.string torn, .string ⟨#[]⟩, .string sb] 9) = W8 at *
            generalize wr.heap.size = GC at *
            clear wr
            go_loopw [147] (fun i wr => ∃ k : Nat, k ≤ 3 ∧ i = .int .i64 k ∧ Below W8.heap.size W8 wr) (fun i _ => 3 - (intOf i).toNat)
            case atStart => exact ⟨0, by omega, rfl, Below.refl _ _⟩
            case round =>
              obtain ⟨k2, hk2, rfl, hbe⟩ := hrel
              by_cases hlt2 : k2 < 3
              · obtain ⟨T, hT, hTc⟩ := HC8.out k2 hlt2
                have hN2 := (hbe.cell (p := ⟨GC, k2, none⟩) hz8).trans hTc
                have hlti2 : (k2 : Int) < 3 := by omega
                have hgw : GC < wr.heap.size := Nat.lt_of_lt_of_le hz8 hbe.size
                have HBE := Lib.hid hbe
                have HCR1 := Lib.hid (fun w1 => crashF_any s T N w1 (by omega) (by omega))
                have HCR2 := Lib.hid (fun w1 => refcrashF_any s T N w1 (by omega) (by omega))
                have hys := crashF_size s T N
                generalize crashF s T N = Y at *
                obtain ⟨es, hes⟩ := preads_any Y
                have hye : Y.size ≤ 372 := by omega
                have hel := hes.len
                have HO1 := Lib.hid (fun w1 => (open_any Y es w1 (hes.reads (by omega))).mono (R' := fun e w' => ∃ v : Value, e = .returned (.tuple #[v, .int .i64 ((12 * es.length : Nat) : Int)]) ∧ SliceDecs w' v es ∧ Below w1.heap.size w1 w') (fun e w' ⟨v, he, h2, h3⟩ => ⟨v, he, h2.slice, h3⟩))
                have HO2 := Lib.hid (fun w1 => (refopen_any Y es w1 (hes.readsR (by omega))).mono (R' := fun e w' => ∃ v : Value, e = .returned (.tuple #[v, .int .i64 ((12 * es.length : Nat) : Int)]) ∧ SliceDecs w' v es ∧ Below w1.heap.size w1 w') (fun e w' ⟨v, he, h2, h3⟩ => ⟨v, he, h2.slice, h3⟩))
                have HR1 := Lib.hid (fun w1 => replayF_any Y es w1 (hes.reads (by omega)) (by omega))
                have HR2 := Lib.hid (fun w1 => refreplay_any Y es w1 (hes.readsR (by omega)) (by omega))
                have HW1 := Lib.hid (fun w1 => whole_any Y es w1 (hes.reads (by omega)) hel (by omega))
                have HW2 := Lib.hid (fun w1 => refwhole_any Y es w1 (hes.readsR (by omega)) hel (by omega))
                have hal : (addAll es).length ≤ 100000 := by have := addAll_length es; omega
                have hel2 : es.length ≤ 100000 := by omega
                generalize addAll es = al at *
                generalize Y.extract 0 (12 * es.length) = YW at *
                have hq1 : IntKind.i64.wrap ((es.length : Int)) = (es.length : Int) := IntWalk.i64_in _ (by omega)
                clear hq1
                generalize hEL : ((12 * es.length : Nat) : Int) = el at *
                generalize hEM : (es.length : Int) = em at *
                clear hbe hTc hys hes hel hEL hEM
                go_wp2_with fail
                refine (HCR1.out _).mono ?_
                rintro e y1 ⟨rfl, rfl⟩
                go_wp2_with fail
                refine (HCR2.out _).mono ?_
                rintro e y2 ⟨rfl, rfl⟩
                clear HCR1 HCR2 hN2
                go_wp2_with fail
                refine (HO1.out _).mono ?_
                rintro e y1 ⟨v1, rfl, hs1', hb1'⟩
                obtain ⟨aa1, cc1, hv1⟩ := hs1'.val
                subst hv1
                have HS1 := Lib.hid hs1'
                have HB1 := Lib.hid hb1'
                clear hs1' hb1' HO1
                go_wp2_with fail
                refine (HO2.out _).mono ?_
                rintro e y2 ⟨v2, rfl, hs2', hb2'⟩
                obtain ⟨aa2, cc2, hv2⟩ := hs2'.val
                subst hv2
                have HS2 := Lib.hid hs2'
                have HS1' := Lib.hid (HS1.out.below hb2')
                have HB2 := Lib.hid (HB1.out.trans (hb2'.mono HB1.out.size))
                clear hs2' hb2' HO2 HS1 HB1
                go_wp2_with fail
                refine (HR1.out _).mono ?_
                rintro e y3 ⟨v3, rfl, hs3', hb3'⟩
                obtain ⟨aa3, cc3, hv3⟩ := hs3'.val
                subst hv3
                have hg3 : Below y2.heap.size y2 (y3.alloc (.cells #[.slice aa3 al.length cc3] 25)) := hb3'.alloc hb3'.size _
                have hp3 : (y3.alloc (.cells #[.slice aa3 al.length cc3] 25)).cell? ⟨y3.heap.size, 0, none⟩ = some (.slice aa3 al.length cc3) := World.cell?_alloc_at _ _ _ _ rfl
                have hz3 : y3.heap.size < (y3.alloc (.cells #[.slice aa3 al.length cc3] 25)).heap.size := by simp
                have HS3 := Lib.hid (hs3'.below ((Below.refl _ _).alloc (Nat.le_refl _) (.cells #[.slice aa3 al.length cc3] 25)))
                have HA3 := Lib.hid (HS1'.out.below hg3)
                have HD3 := Lib.hid (HS2.out.below hg3)
                have HB3 := Lib.hid (HB2.out.trans (hg3.mono HB2.out.size))
                have HP3 := Lib.hid hp3
                have HZ3 := Lib.hid hz3
                clear hs3' hb3' hg3 hp3 hz3 HR1 HS1' HS2 HB2
                go_wp2_with fail
                generalize (y3.alloc (.cells #[.slice aa3 al.length cc3] 25)) = Z3 at *
                generalize y3.heap.size = P3 at *
                clear y3
                refine (HR2.out _).mono ?_
                rintro e y4 ⟨v4, rfl, hs4', hb4'⟩
                obtain ⟨aa4, cc4, hv4⟩ := hs4'.val
                subst hv4
                have hg4 : Below Z3.heap.size Z3 (y4.alloc (.cells #[.slice aa4 al.length cc4] 25)) := hb4'.alloc hb4'.size _
                have hp4 : (y4.alloc (.cells #[.slice aa4 al.length cc4] 25)).cell? ⟨y4.heap.size, 0, none⟩ = some (.slice aa4 al.length cc4) := World.cell?_alloc_at _ _ _ _ rfl
                have hz4 : y4.heap.size < (y4.alloc (.cells #[.slice aa4 al.length cc4] 25)).heap.size := by simp
                have HS4 := Lib.hid (hs4'.below ((Below.refl _ _).alloc (Nat.le_refl _) (.cells #[.slice aa4 al.length cc4] 25)))
                have HS3' := Lib.hid (HS3.out.below hg4)
                have HA4 := Lib.hid (HA3.out.below hg4)
                have HD4 := Lib.hid (HD3.out.below hg4)
                have HB4' := Lib.hid (HB3.out.trans (hg4.mono HB3.out.size))
                have HP3' := Lib.hid ((hg4.cell (p := ⟨P3, 0, none⟩) HZ3.out).trans HP3.out)
                have HZ3' := Lib.hid (Nat.lt_of_lt_of_le HZ3.out hg4.size)
                have HP4 := Lib.hid hp4
                have HZ4 := Lib.hid hz4
                clear hs4' hb4' hg4 hp4 hz4 HR2 HS3 HA3 HD3 HB3 HP3 HZ3
                go_wp2_with fail
                generalize (y4.alloc (.cells #[.slice aa4 al.length cc4] 25)) = Z4 at *
                generalize y4.heap.size = P4 at *
                clear y4
                refine (samedecs_any _ _ es _ HA4.out HD4.out hel2).mono ?_
                rintro e t1 ⟨rfl, ht1⟩
                have p3 := (ht1.cell (p := ⟨P3, 0, none⟩) HZ3'.out).trans HP3'.out
                have p4 := (ht1.cell (p := ⟨P4, 0, none⟩) HZ4.out).trans HP4.out
                have HS3t := Lib.hid (HS3'.out.below ht1)
                have HS4t := Lib.hid (HS4.out.below ht1)
                have HBt := Lib.hid (HB4'.out.trans (ht1.mono HB4'.out.size))
                clear ht1 HS3' HS4 HB4' HP3' HP4 HZ3' HZ4 HA4 HD4
                go_wp2_with fail
                refine (same_any _ _ al _ HS3t.out HS4t.out hal).mono ?_
                rintro e t2 ⟨rfl, ht2⟩
                have HBu := Lib.hid (HBt.out.trans (ht2.mono HBt.out.size))
                clear ht2 p3 p4 HS3t HS4t HBt
                go_wp2_with fail
                refine (HW1.out _).mono ?_
                rintro e t3 ⟨rfl, ht3⟩
                have HBv := Lib.hid (HBu.out.trans (ht3.mono HBu.out.size))
                clear ht3 HBu HW1
                go_wp2_with fail
                refine (HW2.out _).mono ?_
                rintro e t4 ⟨rfl, ht4⟩
                have HBx := Lib.hid (HBv.out.trans (ht4.mono HBv.out.size))
                clear ht4 HBv HW2
                have hym := fun w1 => mod_any' at' ((Y.size : Int) + 2) w1 ha1 (by omega) (by omega)
                have hyi : (Y.size : Int) ≤ 372 := by omega
                have HYM := Lib.hid hym
                clear hym
                go_wp2_with fail
                refine (HYM.out _).mono ?_
                rintro e t5 ⟨rfl, rfl⟩
                clear HYM
                generalize at' % ((Y.size : Int) + 2) = a2 at *
                go_wp2_with fail
                have hcD : ∀ k, k < 3 → ∃ N : Int, (t5.alloc (.cells #[.int .i64 at', .int .i64 a2, .int .i64 0] 3)).cell? ⟨t5.heap.size, k, none⟩ = some (.int .i64 N) := by
                  intro k hk
                  have e : k = 0 ∨ k = 1 ∨ k = 2 := by omega
                  rcases e with rfl | rfl | rfl <;> exact ⟨_, World.cell?_alloc_at _ _ _ _ rfl⟩
                have hzD : t5.heap.size < (t5.alloc (.cells #[.int .i64 at', .int .i64 a2, .int .i64 0] 3)).heap.size := by simp
                have HCD := Lib.hid hcD
                have HBD := Lib.hid (HBx.out.alloc (o := .cells #[.int .i64 at', .int .i64 a2, .int .i64 0] 3) HBx.out.size)
                clear hcD HBx
                generalize t5.alloc (.cells #[.int .i64 at', .int .i64 a2, .int .i64 0] 3) = WD at *
                generalize t5.heap.size = GD at *
                clear t5
                go_loopw [219] (fun i wr => ∃ k : Nat, k ≤ 3 ∧ i = .int .i64 k ∧ Below WD.heap.size WD wr) (fun i _ => 3 - (intOf i).toNat)
                case atStart => exact ⟨0, by omega, rfl, Below.refl _ _⟩
                case round =>
                  obtain ⟨k3, hk3, rfl, hbe⟩ := hrel
                  by_cases hlt3 : k3 < 3
                  · obtain ⟨z, hzc⟩ := HCD.out k3 hlt3
                    have hN3 := (hbe.cell (p := ⟨GD, k3, none⟩) hzD).trans hzc
                    have hlti3 : (k3 : Int) < 3 := by omega
                    have hgw3 : GD < wr.heap.size := Nat.lt_of_lt_of_le hzD hbe.size
                    have HBE := Lib.hid hbe
                    have hd1 := fun w1 => decode_any Y z w1 (by omega)
                    have hd2 := fun w1 => refdecode_any Y z w1 (by omega)
                    unfold DecF Dec.val at hd1 hd2
                    generalize decodeF Y z = dz at *
                    obtain ⟨dd, z1, z2⟩ := dz
                    dsimp only at hd1 hd2
                    have HD1 := Lib.hid hd1
                    have HD2 := Lib.hid hd2
                    clear hbe hzc hd1 hd2
                    go_wp2_with fail
                    refine (HD1.out _).mono ?_
                    rintro e u1 ⟨rfl, hu1⟩
                    have hv1 : Below wr.heap.size wr (u1.alloc (.cells #[.int .i64 dd.day, .int .i64 dd.known, .int .i64 dd.kind, .int .i64 dd.subject, .int .i64 dd.value] 27)) := hu1.alloc hu1.size _
                    have hc1 : DecAt (u1.alloc (.cells #[.int .i64 dd.day, .int .i64 dd.known, .int .i64 dd.kind, .int .i64 dd.subject, .int .i64 dd.value] 27)) u1.heap.size 0 dd := ⟨World.cell?_alloc_at _ _ _ _ rfl, World.cell?_alloc_at _ _ _ _ rfl, World.cell?_alloc_at _ _ _ _ rfl, World.cell?_alloc_at _ _ _ _ rfl, World.cell?_alloc_at _ _ _ _ rfl⟩
                    have hz1' : u1.heap.size < (u1.alloc (.cells #[.int .i64 dd.day, .int .i64 dd.known, .int .i64 dd.kind, .int .i64 dd.subject, .int .i64 dd.value] 27)).heap.size := by simp
                    have HV1 := Lib.hid (HBE.out.trans (hv1.mono HBE.out.size))
                    have HC1 := Lib.hid hc1
                    have HZ1 := Lib.hid hz1'
                    clear hu1 hv1 hc1 hz1' hN3 HD1 HBE
                    go_wp2_with fail
                    generalize (u1.alloc (.cells #[.int .i64 dd.day, .int .i64 dd.known, .int .i64 dd.kind, .int .i64 dd.subject, .int .i64 dd.value] 27)) = U1 at *
                    generalize u1.heap.size = Q1 at *
                    clear u1
                    refine (HD2.out _).mono ?_
                    rintro e u2 ⟨rfl, hu2⟩
                    have hv2 : Below U1.heap.size U1 (u2.alloc (.cells #[.int .i64 dd.day, .int .i64 dd.known, .int .i64 dd.kind, .int .i64 dd.subject, .int .i64 dd.value] 27)) := hu2.alloc hu2.size _
                    have hc2 : DecAt (u2.alloc (.cells #[.int .i64 dd.day, .int .i64 dd.known, .int .i64 dd.kind, .int .i64 dd.subject, .int .i64 dd.value] 27)) u2.heap.size 0 dd := ⟨World.cell?_alloc_at _ _ _ _ rfl, World.cell?_alloc_at _ _ _ _ rfl, World.cell?_alloc_at _ _ _ _ rfl, World.cell?_alloc_at _ _ _ _ rfl, World.cell?_alloc_at _ _ _ _ rfl⟩
                    have hc1b := HC1.out.of_cells (w' := u2.alloc (.cells #[.int .i64 dd.day, .int .i64 dd.known, .int .i64 dd.kind, .int .i64 dd.subject, .int .i64 dd.value] 27)) (fun o => hv2.cell (p := ⟨Q1, o, none⟩) HZ1.out)
                    have HV2 := Lib.hid (HV1.out.trans (hv2.mono HV1.out.size))
                    obtain ⟨x0, x1, x2, x3, x4⟩ := hc1b
                    obtain ⟨y0, y1, y2, y3, y4⟩ := hc2
                    simp only [Nat.zero_add] at x0 x1 x2 x3 x4 y0 y1 y2 y3 y4
                    clear hu2 hv2 HD2 HV1 HC1 HZ1
                    go_wp2_with fail
                    exact ⟨⟨k3 + 1, by omega, by go_num, HV2.out⟩, by simp [intOf]; omega⟩
                  · clear HCD HC8
                    have HBE2 := Lib.hid (HBE.out.trans ((HBD.out.trans (hbe.mono HBD.out.size)).mono HBE.out.size))
                    have hk3e : k3 = 3 := by omega
                    subst hk3e
                    clear hbe
                    go_wp2_with fail
                    exact ⟨⟨k2 + 1, by omega, by go_num, HBE2.out⟩, by simp [intOf]; omega⟩
              · have HBE := Lib.hid (HK8.out.trans (hbe.mono HK8.out.size))
                have hk2e : k2 = 3 := by omega
                subst hk2e
                clear hbe HC8
                go_wp2_with fail
                exact ⟨⟨k + 1, by omega, by go_num, HBE.out⟩, by simp [intOf]; omega⟩
          · have HBE := Lib.hid (HW7.out.trans (hbe.mono HW7.out.size))
            have hke : k = 2 := by omega
            subst hke
            have hsu1 := fun w1 => sum4_any torn w1 (by unfold maxLen; omega)
            have hsu2 := fun w1 => refsum_any torn w1 (by unfold maxLen; omega)
            generalize fnv torn.data.toList = fv at *
            have HS1 := Lib.hid hsu1
            have HS2 := Lib.hid hsu2
            clear hbe HC7 HBY7 hsu1 hsu2
            go_wp2_with fail
            refine (HS1.out _).mono ?_
            rintro e t1 ⟨rfl, rfl⟩
            go_wp2_with fail
            refine (HS2.out _).mono ?_
            rintro e t2 ⟨rfl, rfl⟩
            clear HS1 HS2
            go_wp2_with fail
            refine (awake_any _).mono ?_
            rintro e t3 ⟨rfl, hb3⟩
            go_wp2
            go_ret
            exact ⟨rfl, HBE.out.trans (hb3.mono HBE.out.size)⟩
end Go.Proofs.Ytpjcaanlagibpaa

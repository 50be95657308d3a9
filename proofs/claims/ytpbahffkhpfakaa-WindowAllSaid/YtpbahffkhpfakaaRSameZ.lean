import Derived.Test.YtpbahffkhpfakaaROutZ
namespace Go.Proofs.Ytpbahffkhpfakaa
open Go.RowKit
set_option linter.unusedSimpArgs false
set_option linter.unusedVariables false

/-! ## Rows of counts that are the same -/

structure RowsAt (w : World) (v : Value) (n nr : Nat) (F : Nat → Nat → Int) : Prop where
  len : n ≤ 1000 ∧ nr ≤ 1000
  rows : ∃ a cap, v = .slice a n cap ∧ ∀ i, i < n → ∃ b g, a = some ⟨b, 0, none⟩ ∧ b < w.heap.size ∧ g < w.heap.size ∧ w.cell? ⟨b, i, none⟩ = some (.slice (some ⟨g, 0, none⟩) nr nr) ∧ ∀ t, t < nr → w.cell? ⟨g, t, none⟩ = some (.int .i64 (F i t))
theorem RowsAt.below {w w' : World} {v : Value} {n nr : Nat} {F : Nat → Nat → Int} (h : RowsAt w v n nr F) (hb : Below w.heap.size w w') : RowsAt w' v n nr F := by
  obtain ⟨h1, a, cap, rfl, h2⟩ := h
  refine ⟨h1, a, cap, rfl, fun i hi => ?_⟩
  obtain ⟨b, g, e, k1, k2, k3, k4⟩ := h2 i hi
  exact ⟨b, g, e, Nat.lt_of_lt_of_le k1 hb.size, Nat.lt_of_lt_of_le k2 hb.size, (hb.cell (p := ⟨b, i, none⟩) k1).trans k3, fun t ht => (hb.cell (p := ⟨g, t, none⟩) k2).trans (k4 t ht)⟩
theorem RowsAt.row {w : World} {a : Option Addr} {n cap nr : Nat} {F : Nat → Nat → Int} (h : RowsAt w (.slice a n cap) n nr F) {i : Nat} (hi : i < n) : ∃ b g, a = some ⟨b, 0, none⟩ ∧ b < w.heap.size ∧ g < w.heap.size ∧ w.cell? ⟨b, i, none⟩ = some (.slice (some ⟨g, 0, none⟩) nr nr) ∧ ∀ t, t < nr → w.cell? ⟨g, t, none⟩ = some (.int .i64 (F i t)) := by
  obtain ⟨_, a', cap', e, h2⟩ := h
  simp only [Value.slice.injEq] at e
  obtain ⟨rfl, -, -⟩ := e
  exact h2 i hi
theorem RowsAt.nil (w : World) (F : Nat → Nat → Int) : RowsAt w (.slice none 0 0) 0 0 F := ⟨by omega, none, 0, rfl, fun i hi => by omega⟩
theorem Out2.rowsAt {s : Nat} {w : World} {v : Value} {gs : List Nat} {nr : Nat} {F G : Nat → Nat → Int} (h : Out2 s w v gs nr F) (hl : gs.length ≤ 1000 ∧ nr ≤ 1000) (hF : ∀ i t, i < gs.length → t < nr → F i t = G i t) : RowsAt w v gs.length nr G := by
  refine ⟨hl, ?_⟩
  by_cases h0 : 0 < gs.length
  · obtain ⟨b, cap, e, _⟩ := h.row h0
    refine ⟨_, cap, e, fun i hi => ?_⟩
    obtain ⟨b', cap', e', _, k1, _, k2⟩ := h.row hi
    have hr := h.rows i hi
    have hb : b' = b := by rw [e] at e'; simp only [Value.slice.injEq, Option.some.injEq, Addr.mk.injEq] at e'; exact e'.1.1.symm
    subst hb
    refine ⟨b', gs[i], rfl, k1, (Array.getElem?_eq_some_iff.1 hr).1, k2, fun t ht => ?_⟩
    rw [← hF i t hi ht]
    refine (heap_cell hr t).trans ?_
    rw [List.getElem?_toArray]
    exact nums_get _ _ _ ht
  · rcases h.own.2 with ⟨e, _⟩ | ⟨g, cap, cur, e, _⟩
    · exact ⟨none, 0, by rw [e]; congr 1; omega, fun i hi => absurd hi (by omega)⟩
    · exact ⟨_, cap, e, fun i hi => absurd hi (by omega)⟩

set_option maxRecDepth 100000 in
set_option maxHeartbeats 4000000 in
theorem same_any (va vb : Value) (n nr : Nat) (F : Nat → Nat → Int) (w : World) (ha : RowsAt w va n nr F) (hb : RowsAt w vb n nr F) :
    Calls Try.prog 27 #[va, vb] w fun e w' => e = .returned (.bool true) ∧ Below w.heap.size w w' := by
  obtain ⟨h1, h2⟩ := ha.len
  obtain ⟨a1, c1, rfl⟩ : ∃ a c, va = .slice a n c := by obtain ⟨_, a, c, e, _⟩ := ha; exact ⟨a, c, e⟩
  obtain ⟨a2, c2, rfl⟩ : ∃ a c, vb = .slice a n c := by obtain ⟨_, a, c, e, _⟩ := hb; exact ⟨a, c, e⟩
  have HA := Lib.hid ha
  have HB := Lib.hid hb
  clear ha hb
  go_enter Try.func27, Try.ntmps27
  go_wp2_with fail
  go_loopg [14] n (fun gg s14 wr => ∃ i : Nat, i ≤ n ∧ n - i ≤ gg ∧ s14 = .int .i64 i ∧ Aside (Below w.heap.size w wr))
  case atStart => exact ⟨0, Nat.zero_le _, by omega, rfl, Below.refl _ w⟩
  case round =>
    obtain ⟨i, hi, hg, rfl, BW⟩ := hrel
    by_cases hlt : i < n
    · have hltz : (i : Int) < (n : Int) := by omega
      obtain ⟨b1, g1, rfl, hb1, hg1, k1, r1⟩ := (HA.out.below BW.out).row hlt
      obtain ⟨b2, g2, rfl, hb2, hg2, k2, r2⟩ := (HB.out.below BW.out).row hlt
      have R1 := Lib.hid r1
      have R2 := Lib.hid r2
      clear r1 r2
      go_wp2_with fail
      go_quiet (fail)
      go_wp2_with fail
      have hq : Below wr.heap.size wr (wr.drewN nq) := ⟨rfl, rfl, rfl, Nat.le_refl _, fun _ _ => rfl⟩
      have BQ := Lib.hid (BW.out.trans (hq.mono BW.out.size))
      have BQ2 := Lib.hid hq
      clear hq
      generalize wr.drewN nq = wq at *
      go_loopg [33] nr (fun gg s33 wx => ∃ t : Nat, t ≤ nr ∧ nr - t ≤ gg ∧ s33 = .int .i64 t ∧ Aside (Below wr.heap.size wr wx))
      case atStart => exact ⟨0, Nat.zero_le _, by omega, rfl, BQ2.out⟩
      case round =>
        obtain ⟨t, ht, hgg, rfl, BX⟩ := hrel
        by_cases hlt2 : t < nr
        · have hltz2 : (t : Int) < (nr : Int) := by omega
          have m1 := (BX.out.cell (p := ⟨b1, i, none⟩) hb1).trans k1
          have m2 := (BX.out.cell (p := ⟨b2, i, none⟩) hb2).trans k2
          have m3 := (BX.out.cell (p := ⟨g1, t, none⟩) hg1).trans (R1.out t hlt2)
          have m4 := (BX.out.cell (p := ⟨g2, t, none⟩) hg2).trans (R2.out t hlt2)
          generalize F i t = z at m3 m4
          clear k1 k2
          go_wp2_with fail
          go_quiet (fail)
          have hq : Below wr.heap.size wr (wr.drewN nq) := ⟨rfl, rfl, rfl, Nat.le_refl _, fun _ _ => rfl⟩
          have BY := Lib.hid (BX.out.trans (hq.mono BX.out.size))
          clear hq
          go_wp2_with fail
          go_roundg (nr - (t + 1))
          case measure => omega
          case rel => exact ⟨t + 1, by omega, by omega, by go_num, BY.out⟩
        · have hltz2 : ¬ (t : Int) < (nr : Int) := by omega
          have BZ := Lib.hid (BW.out.trans (BX.out.mono BW.out.size))
          go_wp2_with fail
          go_roundg (n - (i + 1))
          case measure => omega
          case rel => exact ⟨i + 1, by omega, by omega, by go_num, BZ.out⟩
    · have hltz : ¬ (i : Int) < (n : Int) := by omega
      go_wp2_with fail
      go_ret
      exact ⟨rfl, BW.out⟩
end Go.Proofs.Ytpbahffkhpfakaa


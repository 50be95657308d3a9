import Derived.Test.YtpjcaanlagibpaaAdds
namespace Go.Proofs.Ytpjcaanlagibpaa
open Go.RowKit
set_option linter.unusedSimpArgs false
set_option linter.unusedVariables false

set_option maxRecDepth 100000 in
set_option maxHeartbeats 1000000 in
theorem ladds_heavy (a : Option Addr) (len cap y : Nat) (w : World) (hl : 400 < len) (hm : (len : Int) ≤ 9223372036854775807) :
    Calls Try.prog 6 #[.slice a len cap, .int .u8 y] w fun e w' => e = .returned (.bool true) ∧ Below w.heap.size w w' := by
  have h1 := fun w1 => light_any a len cap w1 hm
  have hd : decide (len ≤ 400) = false := decide_eq_false (by omega)
  rw [hd] at h1
  have H1 := Lib.hid h1
  clear h1
  go_enter Try.func6, Try.ntmps6
  go_wp2_with fail
  refine (H1.out _).mono ?_
  rintro e w1 ⟨rfl, rfl⟩
  go_wp2_with fail
  refine (wake_any _).mono ?_
  rintro e w1 ⟨rfl, hb⟩
  have HB := Lib.hid hb
  clear hb
  go_wp2_with fail
  go_ret
  exact ⟨rfl, HB.out⟩

set_option maxRecDepth 100000 in
set_option maxHeartbeats 4000000 in
theorem ladds_light (a : Option Addr) (len cap y : Nat) (w : World) (hl : len ≤ 400) (hr : RowAt w w.heap.size a len) (hy : y < 256) :
    Calls Try.prog 6 #[.slice a len cap, .int .u8 y] w fun e w' => e = .returned (.bool true) ∧ Below w.heap.size w w' := by
  have h1 := fun w1 => light_any a len cap w1 (by omega)
  have hd : decide (len ≤ 400) = true := decide_eq_true (by omega)
  rw [hd] at h1
  have H1 := Lib.hid h1
  have H2 := Lib.hid (roll_any a len cap w hl hr)
  have hyi : (y : Int) < 256 := by omega
  clear h1 hr hd
  go_enter Try.func6, Try.ntmps6
  go_wp2_with fail
  refine (H1.out _).mono ?_
  rintro e w1 ⟨rfl, rfl⟩
  go_wp2_with fail
  refine H2.out.mono ?_
  rintro e w1 ⟨rfl, hb1, hz1, hd1⟩
  have HB1 := Lib.hid hb1
  have HZ1 := Lib.hid hz1
  have HD1 := Lib.hid hd1
  clear hb1 hz1 hd1 H1 H2
  go_wp2_with fail
  obtain ⟨N, hN⟩ : ∃ N : Nat, y % 133 = N := ⟨_, rfl⟩
  have hNl : N ≤ 132 := by omega
  have hNi : (y : Int) % 133 = (N : Int) := by omega
  rw [hNi]
  clear hNi hN
  have hpB : w.heap.size < w1.heap.size := by have := HZ1.out; omega
  have hA0 : Adds w.heap.size w1.heap.size w1 ((w1.alloc (.cells #[.slice none 0 0] 25)).alloc (.cells #[.int .i64 0, .int .i64 0, .int .i64 0, .int .i64 0, .int .i64 0] 27)) (.slice none 0 0) (.slice none 0 0) [] ⟨0, 0, 0, 0, 0⟩ := by
    refine ⟨Dg.of_below (((Below.refl _ _).alloc (Nat.le_refl _) _).alloc (by simp) _) HD1.out, ?_, ?_, ?_, ?_, .inl ⟨rfl, rfl⟩, ⟨rfl, .inl ⟨rfl, rfl⟩⟩, (fun g n m e => by cases e), ?_⟩
    · rw [World.cell?_alloc_past _ _ _ (by simp)]; exact World.cell?_alloc_at _ _ _ _ (by simp)
    · rw [frozen?_alloc_cells, frozen?_alloc_cells]; exact frozen_beyond _ _ _ (by omega)
    · exact ⟨World.cell?_alloc_at _ _ _ _ (by simp), World.cell?_alloc_at _ _ _ _ (by simp), World.cell?_alloc_at _ _ _ _ (by simp), World.cell?_alloc_at _ _ _ _ (by simp), World.cell?_alloc_at _ _ _ _ (by simp)⟩
    · intro o; rw [frozen?_alloc_cells, frozen?_alloc_cells]; exact frozen_beyond _ _ _ (by omega)
    · simp only [World.size_alloc]; omega
  have HA0 := Lib.hid hA0
  clear hA0
  generalize ((w1.alloc (.cells #[.slice none 0 0] 25)).alloc (.cells #[.int .i64 0, .int .i64 0, .int .i64 0, .int .i64 0, .int .i64 0] 27)) = W0 at *
  go_loopw [8, 22] (fun vw i wr => ∃ (k : Nat) (v : Value) (ds : List Dec) (a kk c s x : Nat), k ≤ N ∧ i = .int .i64 k ∧ Adds w.heap.size w1.heap.size w1 wr v vw ds ⟨a, kk, c, s, x⟩ ∧ OKs ds ∧ ds.length = min k 128 ∧ (k ≤ 128 → IsLast ds a kk c s x) ∧ a ≤ 2 * k ∧ kk ≤ k) (fun _ i _ => N - (intOf i).toNat)
  case atStart => exact ⟨0, .slice none 0 0, [], 0, 0, 0, 0, 0, Nat.zero_le _, rfl, HA0.out, OKs.nil, rfl, fun _ => .inl ⟨rfl, rfl, rfl⟩, Nat.le_refl _, Nat.le_refl _⟩
  case round =>
    obtain ⟨k, v, ds, a', kk, c, s, x, hk, rfl, hA, hok, hlen, hisl, ha2, hk2⟩ := hrel
    obtain ⟨av, mv, rfl⟩ := hA.sd.form
    obtain ⟨aw, mw, rfl⟩ := hA.own.slice.form
    have HLEN := Lib.hid hlen
    clear hlen
    by_cases hkn : k < N
    · have hkni : (k : Int) < (N : Int) := by omega
      obtain ⟨l0, l1, l2, l3, l4⟩ := hA.last
      have HA := Lib.hid hA
      have HOK := Lib.hid hok
      have HISL := Lib.hid hisl
      clear hA hok hisl
      have hDEC := decision_any w.heap.size a' kk c s x wr HA.out.dg.dice (by omega) (by omega)
      have HDEC := Lib.hid hDEC
      clear hDEC
      go_wp2_with fail
      refine HDEC.out.mono ?_
      rintro e w2 ⟨⟨a2, k2, c2, s2, x2, hb, rfl⟩, hG⟩
      have hA2 := HA.out.dgr hG (by omega)
      clear HA hG l0 l1 l2 l3 l4 HDEC
      obtain ⟨l0, l1, l2, l3, l4⟩ := hA2.last
      have f0 := hA2.lfree 0
      have f1 := hA2.lfree 1
      have f2 := hA2.lfree 2
      have f3 := hA2.lfree 3
      have f4 := hA2.lfree 4
      have hA3 := hA2.stored (by omega) (by omega) (Nat.le_refl _) ⟨a2, k2, c2, s2, x2⟩
      unfold nest5 at hA3
      have HA3 := Lib.hid hA3
      have HB := Lib.hid hb
      have hcl := hA2.cell
      have hcl3 := hA3.cell
      clear hA2 hA3 hb
      dsimp only [Dec.val]
      go_wp2_with fail
      have hG5 : HA3 = HA3 := rfl
      generalize (((((w2.setCell ⟨w1.heap.size + 1, 0, none⟩ (.int .i64 a2)).setCell ⟨w1.heap.size + 1, 1, none⟩ (.int .i64 k2)).setCell ⟨w1.heap.size + 1, 2, none⟩ (.int .i64 c2)).setCell ⟨w1.heap.size + 1, 3, none⟩ (.int .i64 s2)).setCell ⟨w1.heap.size + 1, 4, none⟩ (.int .i64 x2)) = W3 at *
      clear hG5 hcl l0 l1 l2 l3 l4 f0 f1 f2 f3 f4
      by_cases hful : ds.length < 128
      · have hkl : k < 128 := by have := HLEN.out; omega
        have hb := HB.out
        have hf := follows_next_ok (HISL.out (by omega)) (a' := a2) (k' := k2) (c' := c2) (s' := s2) (v' := x2) (by omega) (by omega) (by omega) (by omega) (by omega) (by omega) (by omega) (by omega)
        refine (add_ok _ ds ⟨a2, k2, c2, s2, x2⟩ W3 HA3.out.sd hful HOK.out hf).mono ?_
        rintro e w4 ⟨v4, rfl, hO4, hb4⟩
        have HF := Lib.hid hf
        obtain ⟨a4, m4, rfl⟩ := hO4.slice.form
        have hb5 : Below W3.heap.size W3 (w4.alloc (.cells #[.slice a4 (ds ++ [(⟨a2, k2, c2, s2, x2⟩ : Dec)]).length m4] 25)) := hb4.alloc hb4.size _
        have HA5 := Lib.hid (HA3.out.below hb5 hpB)
        have HZ4 := Lib.hid hb4.size
        have hO5 : OwnDecs (w4.alloc (.cells #[.slice a4 (ds ++ [(⟨a2, k2, c2, s2, x2⟩ : Dec)]).length m4] 25)) W3.heap.size (.slice a4 (ds ++ [(⟨a2, k2, c2, s2, x2⟩ : Dec)]).length m4) (ds ++ [⟨a2, k2, c2, s2, x2⟩]) := hO4.kept (fun k _ hk => (Below.heap_alloc w4 _ k hk))
        have HO5 := Lib.hid hO5
        have hnw : (ds.length : Int) < 128 := by omega
        have cx5 : World.cell? (w4.alloc (.cells #[.slice a4 (ds ++ [(⟨a2, k2, c2, s2, x2⟩ : Dec)]).length m4] 25)) ⟨w4.heap.size, 0, none⟩ = some (.slice a4 (ds ++ [(⟨a2, k2, c2, s2, x2⟩ : Dec)]).length m4) := World.cell?_alloc_at _ _ _ _ rfl
        have z5 : w4.heap.size < (w4.alloc (.cells #[.slice a4 (ds ++ [(⟨a2, k2, c2, s2, x2⟩ : Dec)]).length m4] 25)).heap.size := by simp
        generalize hll : (ds ++ [(⟨a2, k2, c2, s2, x2⟩ : Dec)]).length = l4 at *
        have HLL := Lib.hid hll
        have CX5 := Lib.hid cx5
        have Z5 := Lib.hid z5
        clear hf hb hO4 hb4 hb5 hO5 hll cx5 z5 hcl3
        go_wp2_with fail
        have hlt := HO5.out.lt
        generalize w4.alloc (.cells #[.slice a4 l4 m4] 25) = W5 at *
        generalize w4.heap.size = Bx at *
        have hbX : Below W5.heap.size W5 (W5.drew.alloc (.cells #[.int .i64 a2, .int .i64 k2, .int .i64 c2, .int .i64 s2, .int .i64 x2] 27)) := ((Below.refl _ _).drew).alloc (by simp) _
        have hAX := HA5.out.below hbX hpB
        have hOX : OwnDecs (W5.drew.alloc (.cells #[.int .i64 a2, .int .i64 k2, .int .i64 c2, .int .i64 s2, .int .i64 x2] 27)) W3.heap.size (.slice a4 l4 m4) (ds ++ [⟨a2, k2, c2, s2, x2⟩]) := HO5.out.kept (fun k _ hk => hbX.block k hk)
        have hcx := (hbX.cell (p := ⟨Bx, 0, none⟩) Z5.out).trans CX5.out
        have hwlt : ∀ q, (Value.slice aw ds.length mw).ownBlock = some q → w1.heap.size + 2 ≤ q ∧ q < W3.heap.size := fun q hq => HA3.out.own.lt q hq
        have hX5 : W5.heap.size ≤ (W5.drew.alloc (.cells #[.int .i64 a2, .int .i64 k2, .int .i64 c2, .int .i64 s2, .int .i64 x2] 27)).heap.size := hbX.size
        have htmp : ∀ i u, [Value.int .i64 a2, .int .i64 k2, .int .i64 c2, .int .i64 s2, .int .i64 x2][i]? = some u → World.cell? (W5.drew.alloc (.cells #[.int .i64 a2, .int .i64 k2, .int .i64 c2, .int .i64 s2, .int .i64 x2] 27)) ((⟨W5.heap.size, 0, none⟩ : Addr).add i) = some u := by
          intro i u' hu'
          have hp' : (⟨W5.heap.size, 0, none⟩ : Addr).add i = ⟨W5.drew.heap.size, i, none⟩ := by unfold Addr.add; split <;> simp_all
          rw [hp', World.cell?_alloc_at _ _ _ _ rfl, ← hu']
          simp
        have HO := Lib.hid (show World.ownsRow (W5.drew.alloc (.cells #[.int .i64 a2, .int .i64 k2, .int .i64 c2, .int .i64 s2, .int .i64 x2] 27)) (w1.heap.size + 2) 27 5 (.slice aw ds.length mw) ds.length (flat ds) from hAX.own)
        have HZX := Lib.hid (show w1.heap.size + 2 ≤ (W5.drew.alloc (.cells #[.int .i64 a2, .int .i64 k2, .int .i64 c2, .int .i64 s2, .int .i64 x2] 27)).heap.size from hAX.size)
        have HSTEP : Hid (∀ v' w6, w6.ownsRow (w1.heap.size + 2) 27 5 v' (ds.length + 1) (flat ds ++ [Value.int .i64 a2, .int .i64 k2, .int .i64 c2, .int .i64 s2, .int .i64 x2]) → (W5.drew.alloc (.cells #[.int .i64 a2, .int .i64 k2, .int .i64 c2, .int .i64 s2, .int .i64 x2] 27)).grownBy w6 (Value.slice aw ds.length mw).ownBlock → (v'.ownBlock = (Value.slice aw ds.length mw).ownBlock ∨ ∀ q, v'.ownBlock = some q → (W5.drew.alloc (.cells #[.int .i64 a2, .int .i64 k2, .int .i64 c2, .int .i64 s2, .int .i64 x2] 27)).heap.size ≤ q) →
            w6.cell? ⟨w1.heap.size, 0, none⟩ = some (.slice av ds.length mv) ∧ w6.frozen? ⟨w1.heap.size, 0, none⟩ = false ∧ w6.cell? ⟨Bx, 0, none⟩ = some (.slice a4 l4 m4) ∧ Adds w.heap.size w1.heap.size w1 (w6.setCell ⟨w1.heap.size, 0, none⟩ (.slice a4 l4 m4)) (.slice a4 l4 m4) v' (ds ++ [⟨a2, k2, c2, s2, x2⟩]) ⟨a2, k2, c2, s2, x2⟩) := Lib.hid (by
          intro v' w6 h1 h2 h3
          have hs3 := HA3.out.size
          have hz4 := HZ4.out
          have hz5 := Z5.out
          have hblk : ∀ q, q < (W5.drew.alloc (.cells #[.int .i64 a2, .int .i64 k2, .int .i64 c2, .int .i64 s2, .int .i64 x2] 27)).heap.size → (Value.slice aw ds.length mw).ownBlock ≠ some q → w6.heap[q]? = _ := fun q hq hq2 => h2.block q hq (fun e => hq2 e.symm)
          refine ⟨(World.cell?_of_block (hblk w1.heap.size (by omega) (fun e => by have := hwlt _ e; omega))).trans hAX.cell, (World.frozen?_of_block (a := ⟨w1.heap.size, 0, none⟩) (hblk w1.heap.size (by omega) (fun e => by have := hwlt _ e; omega))).trans hAX.free, (World.cell?_of_block (a := ⟨Bx, 0, none⟩) (hblk Bx (by omega) (fun e => by have := hwlt _ e; omega))).trans hcx, ?_⟩
          exact hAX.appended (by have := HZ1.out; omega) hpB (Nat.le_refl _) (hOX.kept' (by omega) (fun _ _ _ => rfl)) (fun g n m e hq => by
            have := hwlt _ hq
            have h5 := (hOX.lt g (by rw [e]; simp [Value.ownBlock])).1
            omega) h1 h2 h3)
        have HT := Lib.hid htmp
        have C2 := Lib.hid (show ∀ u ∈ [Value.int .i64 a2, .int .i64 k2, .int .i64 c2, .int .i64 s2, .int .i64 x2], u.oneCell' = true from by intro u hu; simp at hu; rcases hu with rfl | rfl | rfl | rfl | rfl <;> rfl)
        have C3 := Lib.hid (show ds.length + 1 ≤ maxLen from by unfold maxLen; omega)
        have C4 := Lib.hid (show (ds.length + 1) * 40 ≤ 140737488355328 from by omega)
        obtain ⟨l0, l1, l2, l3, l4'⟩ := HA5.out.last
        have cl := HA5.out.cell
        have fl := HA5.out.free
        have cx := CX5.out
        obtain ⟨i0, hi, hz0, hz1, hz2⟩ := info_parts infoDec
        have hcx2 : World.cell? (W5.alloc (.cells #[.int .i64 a2, .int .i64 k2, .int .i64 c2, .int .i64 s2, .int .i64 x2] 27)) ⟨Bx, 0, none⟩ = some (.slice a4 l4 m4) := hcx
        clear hbX hAX hOX hwlt hX5 htmp hlt hcx
        go_region_law (refine step_append_new_Ytpjcaanlagibpaa rfl (.tmp 47) (.tmp 49) 23 rfl (w1.heap.size + 2) 27 i0 (.agg #[.int .i64 0, .int .i64 0, .int .i64 0, .int .i64 0, .int .i64 0]) 5 40 Try.underlying23 hi hz0 hz1 hz2 rfl (by decide) (.slice aw ds.length mw) ds.length (flat ds) (by simp [Act.eval, Act.put]) HO.out ⟨W5.heap.size, 0, none⟩ 1 1 [Value.int .i64 a2, .int .i64 k2, .int .i64 c2, .int .i64 s2, .int .i64 x2] (by simp [Act.eval, Act.put]) rfl HT.out C2.out C3.out C4.out HZX.out ?_; intro v' w6 hown' hgrow hnew; obtain ⟨q1, q2, q3, q4⟩ := HSTEP.out v' w6 hown' hgrow hnew; have HQ4 := Lib.hid q4; obtain ⟨g', cap', rfl⟩ := owns_succ hown'; clear hown' hgrow hnew q4)
        all_goals (clear q1 q2 q3)
        all_goals go_wp2_with fail
        all_goals (
          have hb := HB.out
          have hln := HLEN.out
          exact ⟨⟨k + 1, _, ds ++ [⟨a2, k2, c2, s2, x2⟩], a2, k2, c2, s2, x2, by omega, by go_num, HQ4.out, HOK.out.snoc HF.out, by simp; omega, fun _ => .inr (by simp), by omega, by omega⟩, by simp [intOf]; omega⟩)
      · have hkl : 128 ≤ k ∧ ds.length = 128 := by have := HLEN.out; omega
        have hb := HB.out
        refine (add_full _ ds ⟨a2, k2, c2, s2, x2⟩ W3 HA3.out.sd hkl.2 HOK.out).mono ?_
        rintro e w4 ⟨v4, rfl, hO4, hb4⟩
        obtain ⟨a4, m4, rfl⟩ := hO4.slice.form
        have hbx : Below w4.heap.size w4 (w4.alloc (.cells #[.slice a4 ds.length m4] 25)) := (Below.refl _ _).alloc (Nat.le_refl _) _
        have HS5 := Lib.hid (hO4.slice.below hbx)
        have hb5 : Below W3.heap.size W3 (w4.alloc (.cells #[.slice a4 ds.length m4] 25)) := hb4.alloc hb4.size _
        have HA5 := Lib.hid (HA3.out.below hb5 hpB)
        have hnw : (ds.length : Int) = 128 := by omega
        have cx5 : World.cell? (w4.alloc (.cells #[.slice a4 ds.length m4] 25)) ⟨w4.heap.size, 0, none⟩ = some (.slice a4 ds.length m4) := World.cell?_alloc_at _ _ _ _ rfl
        have cl5 := HA5.out.cell
        have HKL := Lib.hid hkl
        clear hb hO4 hb4 hb5 hbx hcl3 hful hkl
        go_wp2_with fail
        refine (lsame_any _ _ ds _ HS5.out HA5.out.sd (by have := HKL.out.2; omega)).mono ?_
        rintro e w6 ⟨rfl, hb6⟩
        have HA6 := Lib.hid (HA5.out.below hb6 hpB)
        clear hb6 cx5 cl5
        go_wp2_with fail
        have hb := HB.out
        have hln := HLEN.out
        have hkl := HKL.out
        exact ⟨⟨k + 1, _, ds, a2, k2, c2, s2, x2, by omega, by go_num, HA6.out, HOK.out, by omega, fun h => by omega, by omega, by omega⟩, by simp [intOf]; omega⟩
    · have hke : k = N := by omega
      subst hke
      have HA := Lib.hid hA
      have HOK := Lib.hid hok
      have cl5 := hA.cell
      clear hA hok hisl
      go_wp2_with fail
      have hl8 : ds.length ≤ 128 := by have := HLEN.out; omega
      refine (same_any _ _ ds _ HA.out.sd HA.out.own.slice (by omega)).mono ?_
      rintro e w4 ⟨rfl, hb4⟩
      have HA4 := Lib.hid (HA.out.below hb4 hpB)
      have cl4 := HA4.out.cell
      clear hb4 cl5
      go_wp2_with fail
      have hck := check_val (.slice av ds.length mv) ds w4 HA4.out.sd hl8
      rw [HOK.out.check 0] at hck
      refine hck.mono ?_
      rintro e w5 ⟨rfl, hb5⟩
      have HA5 := Lib.hid (HA4.out.below hb5 hpB)
      clear hb5 cl4 hck
      go_wp2_with fail
      refine (wake_any _).mono ?_
      rintro e w6 ⟨rfl, hb6⟩
      have HF := Lib.hid ((HB1.out.trans (HA5.out.dg.below (Nat.le_refl _) HB1.out.size)).trans (hb6.mono (Nat.le_trans HB1.out.size HA5.out.dg.size)))
      clear hb6
      go_wp2_with fail
      go_ret
      exact ⟨rfl, HF.out⟩
end Go.Proofs.Ytpjcaanlagibpaa

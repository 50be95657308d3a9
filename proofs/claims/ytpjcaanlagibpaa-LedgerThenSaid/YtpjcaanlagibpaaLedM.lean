import Derived.Test.YtpjcaanlagibpaaLedW
namespace Go.Proofs.Ytpjcaanlagibpaa
open Go.RowKit
set_option linter.unusedSimpArgs false
set_option linter.unusedVariables false

/-- a drawn ledger, and how great its last decision is -/
def LedgerMore (p most : Nat) (w : World) (e : Ending) (w' : World) : Prop :=
  ∃ (v : Value) (ds : List Dec) (a k c s x : Nat), e = .returned (.agg #[v]) ∧ OKs ds ∧ ds.length ≤ most ∧ IsLast ds a k c s x ∧ a ≤ 2 * ds.length ∧ k ≤ ds.length ∧ OwnDecs w' w.heap.size v ds ∧ Dg p w w'

set_option maxRecDepth 100000 in
set_option maxHeartbeats 400000 in
theorem ledger_more (p most : Nat) (w : World) (h : DiceAt w p) (hm : most ≤ 100) :
    Calls Try.prog 16 #[.pointer (some ⟨p, 0, none⟩), .int .i64 most] w fun e w' => LedgerMore p most w e w' := by
  have hmi : (most : Int) ≤ 100 := by omega
  have hp := h.1
  go_enter Try.func16, Try.ntmps16
  go_wp2_with fail
  have hL : Led p w.heap.size most w (((w.alloc (.cells #[.slice none 0 0] 25)).alloc (.cells #[.slice none 0 0] 25)).alloc (.cells #[.int .i64 0, .int .i64 0, .int .i64 0, .int .i64 0, .int .i64 0] 27)) 0 (.slice none 0 0) [] 0 0 0 0 0 := by
    refine ⟨Dg.of_below ((((Below.refl _ _).alloc (Nat.le_refl _) _).alloc (by simp) _).alloc (by simp; omega) _) h, ?_, ?_, ?_, ?_, ?_, ?_, ⟨rfl, .inl ⟨rfl, rfl⟩⟩, ?_, OKs.nil, .inl ⟨rfl, rfl, rfl⟩, Nat.zero_le _, Nat.le_refl _, Nat.le_refl _⟩
    · rw [World.cell?_alloc_past _ _ _ (by simp)]; exact World.cell?_alloc_at _ _ _ _ (by simp)
    · rw [frozen?_alloc_cells, frozen?_alloc_cells, frozen?_alloc_cells]; exact frozen_beyond _ _ _ (by omega)
    · rw [World.cell?_alloc_past _ _ _ (by simp; omega), World.cell?_alloc_past _ _ _ (by simp)]; exact ⟨_, World.cell?_alloc_at _ _ _ _ (by simp)⟩
    · rw [frozen?_alloc_cells, frozen?_alloc_cells, frozen?_alloc_cells]; exact frozen_beyond _ _ _ (by omega)
    · exact ⟨World.cell?_alloc_at _ _ _ _ (by simp), World.cell?_alloc_at _ _ _ _ (by simp), World.cell?_alloc_at _ _ _ _ (by simp), World.cell?_alloc_at _ _ _ _ (by simp), World.cell?_alloc_at _ _ _ _ (by simp)⟩
    · intro o; rw [frozen?_alloc_cells, frozen?_alloc_cells, frozen?_alloc_cells]; exact frozen_beyond _ _ _ (by omega)
    · simp only [World.size_alloc]; omega
  generalize (((w.alloc (.cells #[.slice none 0 0] 25)).alloc (.cells #[.slice none 0 0] 25)).alloc (.cells #[.int .i64 0, .int .i64 0, .int .i64 0, .int .i64 0, .int .i64 0] 27)) = W3 at *
  refine (next_any p _ _ hL.dg.dice (by omega) (by omega)).mono ?_
  rintro e w1 ⟨⟨r, hr, rfl⟩, hk1⟩
  replace hL : Led p w.heap.size most w w1 0 (.slice none 0 0) [] 0 0 0 0 0 := hL.dk hk1 hp
  clear hk1
  have HL := Lib.hid hL
  clear hL
  go_wp2_with fail
  go_loopw [7] (fun i wr => ∃ (j : Nat) (v : Value) (ds : List Dec) (a k c s x : Nat), i = .int .i64 j ∧ Led p w.heap.size most w wr j v ds a k c s x) (fun i _ => (intOf i).toNat)
  case atStart =>
    have := HL.out
    exact ⟨r, _, _, 0, 0, 0, 0, 0, rfl, ⟨this.dg, this.cell, this.free, this.out, this.ofree, this.last, this.lfree, this.own, this.size, this.oks, this.isl, by simp; omega, this.a2, this.k2⟩⟩
  case round =>
    obtain ⟨j, v, ds, a, k, c, s, x, rfl, hL⟩ := hrel
    by_cases hj : 0 < j
    · obtain ⟨l0, l1, l2, l3, l4⟩ := hL.last
      have hji : (0 : Int) < (j : Int) := by omega
      have hjb := hL.len
      have hjc : (j : Int) ≤ 100 := by omega
      have HL := Lib.hid hL
      clear hL
      have hba := HL.out.a2
      have hbk := HL.out.k2
      go_wp2_with fail
      refine (decision_any p a k c s x _ HL.out.dg.dice (by omega) (by omega)).mono ?_
      rintro e w2 ⟨⟨a', k', c', s', x', hb, rfl⟩, hG⟩
      have hL2 := HL.out.dgr hG hp
      clear HL hG l0 l1 l2 l3 l4
      have m0 := hL2.cell
      have m1 := hL2.free
      obtain ⟨l0, l1, l2, l3, l4⟩ := hL2.last
      have f0 := hL2.lfree 0
      have f1 := hL2.lfree 1
      have f2 := hL2.lfree 2
      have f3 := hL2.lfree 3
      have f4 := hL2.lfree 4
      have HL2 := Lib.hid hL2
      have HB := Lib.hid hb
      clear hL2 hb
      dsimp only [Dec.val]
      obtain ⟨i0, hi, hz0, hz1, hz2⟩ := info_parts infoDec
      have hm : Mid p w.heap.size most w ((((((w2.setCell ⟨w.heap.size + 1 + 1, 0, none⟩ (.int .i64 a')).setCell ⟨w.heap.size + 1 + 1, 1, none⟩ (.int .i64 k')).setCell ⟨w.heap.size + 1 + 1, 2, none⟩ (.int .i64 c')).setCell ⟨w.heap.size + 1 + 1, 3, none⟩ (.int .i64 s')).setCell ⟨w.heap.size + 1 + 1, 4, none⟩ (.int .i64 x')).alloc (.cells #[.int .i64 a', .int .i64 k', .int .i64 c', .int .i64 s', .int .i64 x'] 27)) w2.heap.size j v ds ⟨a', k', c', s', x'⟩ := HL2.out.stored hp (Nat.le_refl _) hp ⟨a', k', c', s', x'⟩
      have hown : World.ownsRow ((((((w2.setCell ⟨w.heap.size + 1 + 1, 0, none⟩ (.int .i64 a')).setCell ⟨w.heap.size + 1 + 1, 1, none⟩ (.int .i64 k')).setCell ⟨w.heap.size + 1 + 1, 2, none⟩ (.int .i64 c')).setCell ⟨w.heap.size + 1 + 1, 3, none⟩ (.int .i64 s')).setCell ⟨w.heap.size + 1 + 1, 4, none⟩ (.int .i64 x')).alloc (.cells #[.int .i64 a', .int .i64 k', .int .i64 c', .int .i64 s', .int .i64 x'] 27)) (w.heap.size + 1 + 1 + 1) 27 5 v ds.length (flat ds) := hm.own
      have htmp : ∀ i u, [Value.int .i64 a', .int .i64 k', .int .i64 c', .int .i64 s', .int .i64 x'][i]? = some u → World.cell? ((((((w2.setCell ⟨w.heap.size + 1 + 1, 0, none⟩ (.int .i64 a')).setCell ⟨w.heap.size + 1 + 1, 1, none⟩ (.int .i64 k')).setCell ⟨w.heap.size + 1 + 1, 2, none⟩ (.int .i64 c')).setCell ⟨w.heap.size + 1 + 1, 3, none⟩ (.int .i64 s')).setCell ⟨w.heap.size + 1 + 1, 4, none⟩ (.int .i64 x')).alloc (.cells #[.int .i64 a', .int .i64 k', .int .i64 c', .int .i64 s', .int .i64 x'] 27)) ((⟨w2.heap.size, 0, none⟩ : Addr).add i) = some u := hm.tmp
      have hsz : w.heap.size + 1 + 1 + 1 ≤ (World.heap ((((((w2.setCell ⟨w.heap.size + 1 + 1, 0, none⟩ (.int .i64 a')).setCell ⟨w.heap.size + 1 + 1, 1, none⟩ (.int .i64 k')).setCell ⟨w.heap.size + 1 + 1, 2, none⟩ (.int .i64 c')).setCell ⟨w.heap.size + 1 + 1, 3, none⟩ (.int .i64 s')).setCell ⟨w.heap.size + 1 + 1, 4, none⟩ (.int .i64 x')).alloc (.cells #[.int .i64 a', .int .i64 k', .int .i64 c', .int .i64 s', .int .i64 x'] 27))).size := hm.size
      have HM := Lib.hid hm
      have HO := Lib.hid hown
      have HT := Lib.hid htmp
      have HZ := Lib.hid hsz
      clear hm hown htmp hsz
      have C2 := Lib.hid (show ∀ u ∈ [Value.int .i64 a', .int .i64 k', .int .i64 c', .int .i64 s', .int .i64 x'], u.oneCell' = true from by intro u hu; simp at hu; rcases hu with rfl | rfl | rfl | rfl | rfl <;> rfl)
      have C3 := Lib.hid (show ds.length + 1 ≤ maxLen from by unfold maxLen; omega)
      have C4 := Lib.hid (show (ds.length + 1) * 40 ≤ 140737488355328 from by omega)
      go_wp2_with (at_builtin; (refine wpList_append_own _ rfl (.tmp 20) (.tmp 22) 23 rfl (w.heap.size + 1 + 1 + 1) 27 i0 (.agg #[.int .i64 0, .int .i64 0, .int .i64 0, .int .i64 0, .int .i64 0]) 5 40 Try.underlying23 hi hz0 hz1 hz2 rfl (by decide) v ds.length (flat ds) rfl HO.out ⟨w2.heap.size, 0, none⟩ 1 1 [Value.int .i64 a', .int .i64 k', .int .i64 c', .int .i64 s', .int .i64 x'] rfl rfl HT.out C2.out C3.out C4.out HZ.out ?_); intro v' w6 hown' hgrow _; obtain ⟨q7, q8⟩ := HM.out.after hgrow; have HG := Lib.hid hgrow; have HW := Lib.hid hown'; clear hgrow; obtain ⟨g', cap', rfl⟩ := owns_succ hown'; clear hown')
      have hb := HB.out
      have hL := HL2.out
      have hf := follows_next_ok hL.isl (a' := a') (k' := k') (c' := c') (s' := s') (v' := x') (by omega) (by omega) (by omega) (by omega) (by omega) (by omega) (by omega) (by omega)
      exact ⟨⟨j - 1, _, ds ++ [⟨a', k', c', s', x'⟩], a', k', c', s', x', congrArg (Value.int .i64) (by omega), HM.out.appended hp hp (Nat.le_refl _) HW.out HG.out hL.oks hf hj hL.len (by omega) (by omega)⟩, by simp [intOf]; omega⟩
    · have hj0 : j = 0 := by omega
      subst hj0
      have hL2 := hL
      have m0 := hL.cell
      have m1 := hL.free
      obtain ⟨u, n0⟩ := hL.out
      have n1 := hL.ofree
      have HL2 := Lib.hid hL
      clear hL hL2 HL
      have hv : ∃ ad n m, v = .slice ad n m := by
        rcases HL2.out.own.cases with ⟨rfl, _⟩ | ⟨g, cap, rfl, _⟩
        · exact ⟨_, _, _, rfl⟩
        · exact ⟨_, _, _, rfl⟩
      obtain ⟨ad, n, m, rfl⟩ := hv
      have hq := World.cell?_setCell_same wr ⟨w.heap.size, 0, none⟩ (.slice ad n m) n0
      have hfin : LedgerMore p most w (.returned (.agg #[.slice ad n m])) (wr.setCell ⟨w.heap.size, 0, none⟩ (.slice ad n m)) :=
        ⟨_, ds, a, k, c, s, x, rfl, HL2.out.oks, by have := HL2.out.len; omega, HL2.out.isl, HL2.out.a2, HL2.out.k2, HL2.out.own.kept' (Nat.le_succ_of_le (Nat.le_succ_of_le (Nat.le_succ _))) (fun k hk _ => Below.heap_setCell _ _ _ _ (by show k ≠ w.heap.size; omega)), HL2.out.dg.setCell (Nat.le_refl _) (by show w.heap.size ≠ p; omega) hp _⟩
      have HF := Lib.hid hfin
      clear hfin
      have HQ := Lib.hid hq
      clear hq
      go_wp2_with fail
      have hq := HQ.out
      exact bodyPost_ret (v := .agg #[.slice ad n m]) (by simp [results, Try.results16, go_sem, hq]) rfl HF.out
end Go.Proofs.Ytpjcaanlagibpaa

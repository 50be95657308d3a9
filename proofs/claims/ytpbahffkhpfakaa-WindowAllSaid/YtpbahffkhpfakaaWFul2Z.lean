import Derived.Test.YtpbahffkhpfakaaWFullZ
namespace Go.Proofs.Ytpbahffkhpfakaa
open Go.RowKit
set_option linter.unusedSimpArgs false
set_option linter.unusedVariables false

structure Fu (w W : World) (c : Cal) (f : Nat → Int) : Prop where
  box : Box w W w.heap.size c
  cnt : Counts W (w.heap.size + 1) 0 256 f
  hl : w.heap.size + 1 < W.heap.size
theorem Fu.later {w W W2 : World} {c : Cal} {f : Nat → Int} (h : Fu w W c f) (hb : Below W.heap.size W W2) : Fu w W2 c f := ⟨h.box.later hb, h.cnt.below hb h.hl, Nat.lt_of_lt_of_le h.hl hb.size⟩
theorem fu0 (w : World) (c : Cal) (f : Nat → Int) (h : CalAt w c) : Fu w ((w.alloc (.cells #[c.wv, c.tv, c.rv] 25)).alloc (.cells (nums 256 f).toArray 76)) c f := by
  have hB := box w c h
  have s1 : (w.alloc (.cells #[c.wv, c.tv, c.rv] 25)).heap.size = w.heap.size + 1 := by simp
  generalize w.alloc (.cells #[c.wv, c.tv, c.rv] 25) = W1 at hB s1 ⊢
  have hZ : ∀ j, j < 256 → (nums 256 f).toArray[j]? = some (.int .i64 (f j)) := fun j hj => by rw [List.getElem?_toArray]; exact nums_get 256 f j hj
  generalize (nums 256 f).toArray = Z at hZ ⊢
  have hb2 : Below W1.heap.size W1 (W1.alloc (.cells Z 76)) := (Below.refl _ _).alloc (Nat.le_refl _) _
  refine ⟨hB.later hb2, fun j hj => ⟨?_, ?_⟩, by simp [s1]⟩
  · rw [Nat.zero_add, ← s1]
    exact (World.cell?_alloc_at _ _ _ _ rfl).trans (hZ j hj)
  · rw [← s1]
    simp

set_option maxRecDepth 100000 in
set_option maxHeartbeats 8000000 in
theorem full_any (c : Cal) (f : Nat → Int) (w : World) (h : CalAt w c) (h8 : c.room.length ≤ 8) :
    Calls Try.prog 54 #[c.val, lval f] w fun e w' => e = .returned (.bool (fullB c f)) ∧ Below w.heap.size w w' := by
  obtain ⟨wa, wc, ta, tc, ra, rc, e1, e2, e3⟩ := h.forms
  have hv : c.val = .agg #[.slice wa c.wins.length wc, .slice ta c.team.length tc, .slice ra c.room.length rc] := by unfold Cal.val; rw [e1, e2, e3]
  have H0 := Lib.hid (fu0 w c f h)
  rw [e1, e2, e3] at H0
  rw [hv]
  have HD := Lib.hid (fun (W : World) (hL : Fu w W c f) => show W.cell? ⟨w.heap.size, 2, none⟩ = some (.slice ra c.room.length rc) from by rw [← e3]; exact hL.box.d2)
  have E3 := Lib.hid e3
  clear h hv e1 e2 e3
  obtain ⟨q, hq⟩ : ∃ q, q = fullB c f := ⟨_, rfl⟩
  rw [← hq]
  have HQ := Lib.hid hq
  clear hq
  have e : lval f = .agg (nums 256 f).toArray := rfl
  rw [e]
  clear e
  generalize hz : (nums 256 f).toArray = Z at H0 ⊢
  clear hz
  go_enter Try.func54, Try.ntmps54
  have hcnt := H0.out.cnt
  go_wp2_with (first
    | (refine wo_load hcnt rfl rfl ?_)
    | (refine wl_load hcnt rfl rfl rfl ?_))
  clear hcnt
  generalize ((w.alloc (.cells #[.slice wa c.wins.length wc, .slice ta c.team.length tc, .slice ra c.room.length rc] 25)).alloc (.cells Z 76)) = W0 at *
  go_loopg [10] 32 (fun gg s10 wr => ∃ kk : Nat, kk ≤ 32 ∧ 32 - kk ≤ gg ∧ s10 = .int .i64 kk ∧ Aside (Fu w wr c f) ∧ Aside (∀ i, i < kk → ∀ t (ht : t < c.room.length), f (i * 8 + t) ≤ c.room[t]))
  case atStart => exact ⟨0, Nat.zero_le _, by omega, rfl, H0.out, fun i hi => absurd hi (Nat.not_lt_zero _)⟩
  case round =>
    obtain ⟨kk, hkk, hg, rfl, L, A⟩ := hrel
    by_cases hlt : kk < 32
    · have hltz : (kk : Int) < 32 := by omega
      have c2 := HD.out wr L.out
      have hidx := run_index_loads f kk hlt
      have hwl := L.out.hl
      have hne : ¬ w.heap.size = wr.heap.size := by omega
      have hbk : Below wr.heap.size wr (wr.alloc (.cells (row8 f kk) 74)) := (Below.refl _ _).alloc (Nat.le_refl _) _
      have LK := Lib.hid (L.out.later hbk)
      have CK := Lib.hid (show ∀ t, t < 8 → (wr.alloc (.cells (row8 f kk) 74)).cell? ⟨wr.heap.size, t, none⟩ = some (.int .i64 (f (kk * 8 + t))) from fun t ht => by
        refine (World.cell?_alloc_at _ _ _ _ rfl).trans ?_
        match t, ht with
        | 0, _ => rfl
        | 1, _ => rfl
        | 2, _ => rfl
        | 3, _ => rfl
        | 4, _ => rfl
        | 5, _ => rfl
        | 6, _ => rfl
        | 7, _ => rfl)
      clear hbk hwl
      unfold row8 at hidx LK CK
      have c2k := HD.out _ LK.out
      clear c2 hne
      go_wp2_with fail
      clear hidx c2k
      generalize hB : wr.heap.size = B at CK ⊢
      clear hB
      generalize wr.alloc (.cells #[.int .i64 (f (kk * 8)), .int .i64 (f (kk * 8 + 1)), .int .i64 (f (kk * 8 + 2)), .int .i64 (f (kk * 8 + 3)), .int .i64 (f (kk * 8 + 4)), .int .i64 (f (kk * 8 + 5)), .int .i64 (f (kk * 8 + 6)), .int .i64 (f (kk * 8 + 7))] 74) = Wk at *
      go_loopg [16] c.room.length (fun gg s16 wi => ∃ tt : Nat, tt ≤ c.room.length ∧ c.room.length - tt ≤ gg ∧ s16 = .int .i64 tt ∧ wi = Wk ∧ Aside (∀ t (ht : t < c.room.length), t < tt → f (kk * 8 + t) ≤ c.room[t]))
      case atStart => exact ⟨0, Nat.zero_le _, by omega, rfl, rfl, fun t ht h0 => absurd h0 (Nat.not_lt_zero _)⟩
      case round =>
        obtain ⟨tt, htt, hgt, rfl, rfl, AT⟩ := hrel
        by_cases hlt2 : tt < c.room.length
        · have hltz2 : (tt : Int) < (c.room.length : Int) := by omega
          obtain ⟨b, off, cap, hs, hbw, r0⟩ := LK.out.box.cal.room.row hlt2
          have x0 := CK.out tt (by omega)
          have ht8 : (tt : Int) < 8 := by omega
          have ht0 : (0 : Int) ≤ (tt : Int) := by omega
          rw [E3.out] at hs
          simp only [Value.slice.injEq] at hs
          obtain ⟨rfl, -, rfl⟩ := hs
          by_cases hgt2 : c.room[tt] < f (kk * 8 + tt)
          · have HY := Lib.hid (fullB_yes hlt hlt2 hgt2)
            generalize c.room[tt] = y at *
            generalize f (kk * 8 + tt) = x at *
            go_wp2_with fail
            go_ret
            refine ⟨?_, LK.out.box.below⟩
            rw [HQ.out, HY.out]
            rfl
          · have HNX := Lib.hid (show ∀ t (ht : t < c.room.length), t < tt + 1 → f (kk * 8 + t) ≤ c.room[t] from fun t ht h1 => by
              by_cases e : t = tt
              · subst e; omega
              · exact AT.out t ht (by omega))
            generalize c.room[tt] = y at r0 hgt2
            generalize f (kk * 8 + tt) = x at x0 hgt2
            go_wp2_with fail
            go_roundg (c.room.length - (tt + 1))
            case measure => omega
            case rel => exact ⟨tt + 1, by omega, by omega, by go_num, rfl, HNX.out⟩
        · have hltz2 : ¬ (tt : Int) < (c.room.length : Int) := by omega
          have hkn2 : tt = c.room.length := by omega
          go_wp2_with fail
          go_roundg (32 - (kk + 1))
          case measure => omega
          case rel =>
            refine ⟨kk + 1, by omega, by omega, by go_num, LK.out, (show Aside _ from fun i hi t ht => ?_)⟩
            by_cases e : i = kk
            · subst e
              exact AT.out t ht (by omega)
            · exact A.out i (by omega) t ht
    · have hltz : ¬ (kk : Int) < 32 := by omega
      have hkn : kk = 32 := by omega
      subst hkn
      go_wp2_with fail
      go_ret
      refine ⟨?_, L.out.box.below⟩
      rw [HQ.out, fullB_no A.out]
      rfl
end Go.Proofs.Ytpbahffkhpfakaa


import Derived.Test.YtpbahffkhpfakaaWAwkZ
import Derived.Deep.CutRange
namespace Go.Proofs.Ytpbahffkhpfakaa
open Go.RowKit
set_option linter.unusedSimpArgs false
set_option linter.unusedVariables false

/-! ## The reference's Check -/

theorem all_no {α : Type} {p : α → Bool} {l : List α} {k : Nat} (hk : k < l.length) (h : p l[k] = false) : l.all p = false := by
  rw [List.all_eq_false]
  exact ⟨_, List.getElem_mem hk, by rw [h]; decide⟩
theorem all_yes {α : Type} {p : α → Bool} {l : List α} (h : ∀ j (hj : j < l.length), p l[j] = true) : l.all p = true := by
  rw [List.all_eq_true]
  intro x hx
  obtain ⟨i, hi, rfl⟩ := List.getElem_of_mem hx
  exact h i hi

set_option maxRecDepth 100000 in
set_option maxHeartbeats 8000000 in
theorem rcheck_any (c : Cal) (n : Int) (w : World) (h : CalAt w c) :
    Calls Try.prog 15 #[c.val, .int .i64 n] w fun e w' => e = .returned (.int .i64 (checkF c n)) ∧ Below w.heap.size w w' := by
  have H0 := Lib.hid (box w c h)
  obtain ⟨wa, wc, ta, tc, ra, rc, e1, e2, e3⟩ := h.forms
  have hv : c.val = .agg #[.slice wa c.wins.length wc, .slice ta c.team.length tc, .slice ra c.room.length rc] := by unfold Cal.val; rw [e1, e2, e3]
  rw [hv]
  rw [e1, e2, e3] at H0
  have HD := Lib.hid (fun (W : World) (hL : Box w W w.heap.size c) => show W.cell? ⟨w.heap.size, 0, none⟩ = some (.slice wa c.wins.length wc) ∧ W.cell? ⟨w.heap.size, 1, none⟩ = some (.slice ta c.team.length tc) ∧ W.cell? ⟨w.heap.size, 2, none⟩ = some (.slice ra c.room.length rc) from ⟨by rw [← e1]; exact hL.d0, by rw [← e2]; exact hL.d1, by rw [← e3]; exact hL.d2⟩)
  have HROOM := Lib.hid (fun (W : World) (hL : Box w W w.heap.size c) (k : Nat) (hk : k < c.room.length) => show ∃ b off, ra = some ⟨b, off, none⟩ ∧ W.cell? ⟨b, off + k, none⟩ = some (.int .i64 c.room[k]) from by
    obtain ⟨b, off, cap, hs, hb, hc⟩ := hL.cal.room.row hk
    rw [e3] at hs
    simp only [Value.slice.injEq] at hs
    exact ⟨b, off, hs.1, hc⟩)
  have HTEAM := Lib.hid (fun (W : World) (hL : Box w W w.heap.size c) (k : Nat) (hk : k < c.team.length) => show ∃ b off, ta = some ⟨b, off, none⟩ ∧ W.cell? ⟨b, off + k, none⟩ = some (.int .i64 c.team[k]) from by
    obtain ⟨b, off, cap, hs, hb, hc⟩ := hL.cal.team.row hk
    rw [e2] at hs
    simp only [Value.slice.injEq] at hs
    exact ⟨b, off, hs.1, hc⟩)
  have HWIN := Lib.hid (fun (W : World) (hL : Box w W w.heap.size c) (k : Nat) (hk : k < c.wins.length) => show ∃ b off, wa = some ⟨b, off, none⟩ ∧ b < W.heap.size ∧ W.cell? ⟨b, off + k * 3, none⟩ = some (.int .i64 c.wins[k].frm) ∧ W.cell? ⟨b, off + k * 3 + 1, none⟩ = some (.int .i64 c.wins[k].til) ∧ W.cell? ⟨b, off + k * 3 + 2, none⟩ = some c.wins[k].tv ∧ IntsAt W c.wins[k].tv c.wins[k].ts from by
    obtain ⟨b, off, cap, hs, hb, h1, h2, h3⟩ := hL.cal.wins.row hk
    rw [e1] at hs
    simp only [Value.slice.injEq] at hs
    exact ⟨b, off, hs.1, hb, h1, h2, h3, hL.cal.wins.teams _ (List.getElem_mem hk)⟩)
  have hlr := h.room.1
  have hlt := h.team.1
  have hlw := h.wins.len
  clear h hv e1 e2 e3
  obtain ⟨q, hq⟩ : ∃ q, q = checkF c n := ⟨_, rfl⟩
  rw [← hq]
  unfold checkF at hq
  have HQ := Lib.hid hq
  clear hq
  by_cases h1 : 32 < c.wins.length ∨ 8 < c.room.length
  · have hq : q = 3 := by rw [HQ.out, if_pos h1]
    subst hq
    have hd := HD.out _ H0.out
    by_cases h32 : 32 < c.wins.length
    · have hz : (32 : Int) < (c.wins.length : Int) := by omega
      go_enter Try.func15, Try.ntmps15
      go_wp2_with fail
      go_ret
      exact ⟨rfl, H0.out.below⟩
    · have hz : ¬ (32 : Int) < (c.wins.length : Int) := by omega
      have hz2 : (8 : Int) < (c.room.length : Int) := by omega
      go_enter Try.func15, Try.ntmps15
      go_wp2_with fail
      go_ret
      exact ⟨rfl, H0.out.below⟩
  · have hz : ¬ (32 : Int) < (c.wins.length : Int) := by omega
    have hz2 : ¬ (8 : Int) < (c.room.length : Int) := by omega
    have hd := HD.out _ H0.out
    have HQ1 := Lib.hid (HQ.out.trans (if_neg h1))
    have HL := Lib.hid (show c.wins.length ≤ 32 ∧ c.room.length ≤ 8 by omega)
    clear HQ h1
    go_enter Try.func15, Try.ntmps15
    go_wp2_with fail
    clear hz hz2
    generalize w.alloc (.cells #[.slice wa c.wins.length wc, .slice ta c.team.length tc, .slice ra c.room.length rc] 25) = W0 at *
    go_loopg [31] c.room.length (fun gg s31 wr => ∃ kk : Nat, kk ≤ c.room.length ∧ c.room.length - kk ≤ gg ∧ s31 = .int .i64 kk ∧ wr = W0 ∧ Aside (∀ j (hj : j < c.room.length), j < kk → inB c.room[j] 0 24 = true))
    case atStart => exact ⟨0, Nat.zero_le _, by omega, rfl, rfl, fun j hj h0 => absurd h0 (Nat.not_lt_zero _)⟩
    case round =>
      obtain ⟨kk, hkk, hg, rfl, rfl, A⟩ := hrel
      by_cases hlt : kk < c.room.length
      · have hltz : (kk : Int) < (c.room.length : Int) := by omega
        obtain ⟨b, off, rfl, hc⟩ := HROOM.out _ H0.out kk hlt
        have HNO := Lib.hid (fun (h : inB c.room[kk] 0 24 = false) => show q = 2 by
          rw [HQ1.out, if_pos (all_no (k := kk) hlt h)])
        have HYES := Lib.hid (fun (h : inB c.room[kk] 0 24 = true) => show ∀ j (hj : j < c.room.length), j < kk + 1 → inB c.room[j] 0 24 = true from fun j hj hjk => by
          by_cases e : j = kk
          · subst e; exact h
          · exact A.out j hj (by omega))
        generalize c.room[kk] = y at hc HNO HYES
        by_cases hy1 : y < 0
        · have hq := HNO.out (by unfold inB; simp; omega)
          subst hq
          go_wp2_with fail
          go_ret
          exact ⟨rfl, H0.out.below⟩
        · by_cases hy2 : 24 < y
          · have hq := HNO.out (by unfold inB; simp; omega)
            subst hq
            go_wp2_with fail
            go_ret
            exact ⟨rfl, H0.out.below⟩
          · go_wp2_with fail
            go_roundg (c.room.length - (kk + 1))
            case measure => omega
            case rel => exact ⟨kk + 1, by omega, by omega, by go_num, rfl, HYES.out (by unfold inB; simp; omega)⟩
      · have hltz : ¬ (kk : Int) < (c.room.length : Int) := by omega
        have hkn : kk = c.room.length := by omega
        have HQ2 := Lib.hid (HQ1.out.trans (if_neg (by rw [all_yes fun j hj => A.out j hj (by omega)]; simp)))
        clear HQ1 A HROOM
        have hd := HD.out _ H0.out
        subst hkn
        go_wp2_with fail
        go_loopg [8, 45] c.wins.length (fun gg _ s45 wr => ∃ kk : Nat, kk ≤ c.wins.length ∧ c.wins.length - kk ≤ gg ∧ s45 = .int .i64 kk ∧ Aside (Box w wr w.heap.size c) ∧ Aside (∀ j (hj : j < c.wins.length), j < kk → daysB c.wins[j] = true))
        case atStart => exact ⟨0, Nat.zero_le _, by omega, rfl, H0.out, fun j hj h0 => absurd h0 (Nat.not_lt_zero _)⟩
        case round =>
          obtain ⟨kk, hkk, hg, rfl, L, A⟩ := hrel
          by_cases hlt : kk < c.wins.length
          · have hltz : (kk : Int) < (c.wins.length : Int) := by omega
            obtain ⟨b, off, rfl, hb, c0, c1, c2, hin⟩ := HWIN.out _ L.out kk hlt
            obtain ⟨ya, yc, ey⟩ := hin.form
            have HNO := Lib.hid (fun (h : daysB c.wins[kk] = false) => show q = 47 by
              rw [HQ2.out, if_pos (all_no (k := kk) hlt h)])
            have HYES := Lib.hid (fun (h : daysB c.wins[kk] = true) => show ∀ j (hj : j < c.wins.length), j < kk + 1 → daysB c.wins[j] = true from fun j hj hjk => by
              by_cases e : j = kk
              · subst e; exact h
              · exact A.out j hj (by omega))
            rw [ey] at c2
            clear hin ey
            generalize c.wins[kk] = y at *
            obtain ⟨yf, yt, yv, ys⟩ := y
            simp only at *
            have LA := Lib.hid (L.out.later (Below.alloc1 wr (.cells #[.int .i64 yf, .int .i64 yt, .slice ya ys.length yc] 58)))
            by_cases hy1 : yf < 0
            · have hq := HNO.out (by unfold daysB; simp; omega)
              subst hq
              go_wp2_with fail
              go_ret
              exact ⟨rfl, LA.out.below⟩
            · by_cases hy2 : yt ≤ yf
              · have hq := HNO.out (by unfold daysB; simp; omega)
                subst hq
                go_wp2_with fail
                go_ret
                exact ⟨rfl, LA.out.below⟩
              · by_cases hy3 : 40001 < yt
                · have hq := HNO.out (by unfold daysB; simp; omega)
                  subst hq
                  go_wp2_with fail
                  go_ret
                  exact ⟨rfl, LA.out.below⟩
                · go_wp2_with fail
                  go_roundg (c.wins.length - (kk + 1))
                  case measure => omega
                  case rel => exact ⟨kk + 1, by omega, by omega, by go_num, LA.out, HYES.out (by unfold daysB; simp; omega)⟩
          · have hltz : ¬ (kk : Int) < (c.wins.length : Int) := by omega
            have hkn : kk = c.wins.length := by omega
            have HQ3 := Lib.hid (HQ2.out.trans (if_neg (by rw [all_yes fun j hj => A.out j hj (by omega)]; simp)))
            clear HQ2 A
            have hd := HD.out _ L.out
            subst hkn
            go_wp2_with fail
            go_loopg [72] c.wins.length (fun gg s72 wr => ∃ kk : Nat, kk ≤ c.wins.length ∧ c.wins.length - kk ≤ gg ∧ s72 = .int .i64 kk ∧ Aside (Box w wr w.heap.size c) ∧ Aside (∀ j (hj : j + 1 < c.wins.length), j + 1 < kk → c.wins[j].til ≤ c.wins[j + 1].frm) ∧ Aside (∀ j (hj : j < c.wins.length), j < kk → ascB c.wins[j].ts = true))
            case atStart => exact ⟨0, Nat.zero_le _, by omega, rfl, L.out, fun j hj h0 => absurd h0 (Nat.not_lt_zero _), fun j hj h0 => absurd h0 (Nat.not_lt_zero _)⟩
            case round =>
              obtain ⟨kk, hkk, hg, rfl, L, A, C⟩ := hrel
              by_cases hlt : kk < c.wins.length
              · have hltz : (kk : Int) < (c.wins.length : Int) := by omega
                obtain ⟨b, off, rfl, hb, c0, c1, c2, hin⟩ := HWIN.out _ L.out kk hlt
                obtain ⟨ya, yc, ey⟩ := hin.form
                have HIN := Lib.hid hin
                have HNO := Lib.hid (fun (h : ascB c.wins[kk].ts = false) => show q = 6 by
                  rw [HQ3.out, if_pos (.inr (all_no (k := kk) hlt h))])
                have HNO2 := Lib.hid (fun (j : Nat) (e : j + 1 = kk) (h : ¬ c.wins[j].til ≤ c.wins[kk].frm) => show q = 6 by
                  have hf : apartB c.wins = false := by
                    cases ha : apartB c.wins with
                    | false => rfl
                    | true =>
                      exfalso
                      have := (pairB_iff (fun a b : Win => decide (a.til ≤ b.frm)) c.wins).1 ha j (by omega)
                      simp only [decide_eq_true_eq] at this
                      subst e
                      exact h this
                  rw [HQ3.out, if_pos (.inl hf)])
                have HYES := Lib.hid (fun (h : ascB c.wins[kk].ts = true) => show ∀ j (hj : j < c.wins.length), j < kk + 1 → ascB c.wins[j].ts = true from fun j hj hjk => by
                  by_cases e : j = kk
                  · subst e; exact h
                  · exact C.out j hj (by omega))
                have HYES2 := Lib.hid (fun (h : ∀ j (e : j + 1 = kk), c.wins[j].til ≤ c.wins[kk].frm) => show ∀ j (hj : j + 1 < c.wins.length), j + 1 < kk + 1 → c.wins[j].til ≤ c.wins[j + 1].frm from fun j hj hjk => by
                  by_cases e : j + 1 = kk
                  · subst e; exact h j rfl
                  · exact A.out j hj (by omega))
                have hprev : ∀ j (hj : j < c.wins.length), wr.cell? ⟨b, off + j * 3 + 1, none⟩ = some (.int .i64 c.wins[j].til) := fun j hj => by
                  obtain ⟨b', off', e', _, _, d1, _⟩ := HWIN.out _ L.out j hj
                  simp only [Option.some.injEq, Addr.mk.injEq, and_true] at e'
                  obtain ⟨rfl, rfl⟩ := e'
                  exact d1
                have hpc := hprev (kk - 1) (by omega)
                clear hprev
                obtain ⟨bad, hbad⟩ : ∃ b : Bool, b = (decide (0 < kk) && decide (c.wins[kk].frm < (c.wins[kk - 1]'(by omega)).til)) := ⟨_, rfl⟩
                have HB1 := Lib.hid (fun (e : bad = true) => show q = 6 from HNO2.out (kk - 1) (by rw [e] at hbad; have := hbad.symm; simp at this; omega) (by rw [e] at hbad; have := hbad.symm; simp at this; omega))
                have HB0 := Lib.hid (fun (e : bad = false) => show ∀ j (hj : j + 1 < c.wins.length), j + 1 < kk + 1 → c.wins[j].til ≤ c.wins[j + 1].frm from HYES2.out fun j ej => by
                  rw [e] at hbad
                  have := hbad.symm
                  simp at this
                  have h2 := this (by omega)
                  have e2 : kk - 1 = j := by omega
                  simp only [e2] at h2
                  exact h2)
                have HBAD := Lib.hid hbad
                clear hbad HNO2 HYES2
                rw [ey] at c2
                rw [ey] at HIN
                clear hin ey
                have LA := Lib.hid (L.out.later (Below.alloc1 wr (.cells #[.int .i64 c.wins[kk].frm, .int .i64 c.wins[kk].til, .slice ya c.wins[kk].ts.length yc] 58)))
                have CA := Lib.hid (fun (W : World) (e : W = wr.alloc (.cells #[.int .i64 c.wins[kk].frm, .int .i64 c.wins[kk].til, .slice ya c.wins[kk].ts.length yc] 58)) => show W.cell? ⟨wr.heap.size, 0, none⟩ = some (.int .i64 c.wins[kk].frm) ∧ W.cell? ⟨wr.heap.size, 2, none⟩ = some (.slice ya c.wins[kk].ts.length yc) ∧ IntsAt W (.slice ya c.wins[kk].ts.length yc) c.wins[kk].ts from by
                  subst e
                  exact ⟨World.cell?_alloc_at _ _ _ _ rfl, World.cell?_alloc_at _ _ _ _ rfl, HIN.out.below (Below.alloc1 _ _)⟩)
                generalize hpt : (c.wins[kk - 1]'(by omega)).til = pt at *
                generalize hkf : c.wins[kk].frm = kf at *
                generalize c.wins[kk].til = kt at *
                generalize hts : c.wins[kk].ts = ts at *
                clear hpt hkf
                go_upto_region 18 with fail
                have ca := CA.out _ rfl
                have hpc2 := ((Below.alloc1 wr (.cells #[.int .i64 kf, .int .i64 kt, .slice ya ts.length yc] 58)).cell (p := ⟨b, off + (kk - 1) * 3 + 1, none⟩) hb).trans hpc
                have hd2 := HD.out _ LA.out
                have hne : ¬ wr.heap.size = w.heap.size := by have := L.out.hB; omega
                have hbn : ¬ b = wr.heap.size := by omega
                clear c0 c1 c2 hd CA hpc L
                have CA := Lib.hid ca.2.2
                obtain ⟨ca0, ca2, _⟩ := ca
                generalize hB10 : wr.heap.size = B10 at *
                have HB10 := Lib.hid (show B10 < (wr.alloc (.cells #[.int .i64 kf, .int .i64 kt, .slice ya ts.length yc] 58)).heap.size by simp; omega)
                clear hB10
                generalize wr.alloc (.cells #[.int .i64 kf, .int .i64 kt, .slice ya ts.length yc] 58) = Wk at *
                go_cut [92] from 77 to 92 (fun s92 wx => s92 = .bool bad ∧ Aside (Below Wk.heap.size Wk wx))
                case first =>
                  rcases Nat.eq_zero_or_pos kk with hk0 | hk0
                  · have hg0 : ¬ (0 : Int) < (kk : Int) := by omega
                    have hg1 : decide ((0 : Int) < (kk : Int)) = false := decide_eq_false hg0
                    have hb0 : bad = false := by rw [HBAD.out, decide_eq_false (show ¬ 0 < kk by omega)]; rfl
                    have hg2 : decide (0 < kk) = false := decide_eq_false (by omega)
                    clear hk0
                    subst hb0
                    go_quiet (fail)
                    go_wp2_with fail
                    go_meet
                    exact ⟨rfl, Below.drewN0 _ _⟩
                  · have hg0 : (0 : Int) < (kk : Int) := by omega
                    have hpr := i64_pred kk (by omega) (by omega)
                    have hlt2 : ((kk - 1 : Nat) : Int) < (c.wins.length : Int) := by omega
                    have hb0 : bad = decide (kf < pt) := by rw [HBAD.out, decide_eq_true hk0]; rfl
                    subst hb0
                    go_quiet (fail)
                    clear hpr
                    go_wp2_with fail
                    go_meet
                    exact ⟨rfl, Below.drewN0 _ _⟩
                case rest =>
                  obtain ⟨rfl, BWc⟩ := hcut
                  have LW := Lib.hid (LA.out.later BWc.out)
                  cases bad with
                  | true =>
                    have hq := HB1.out rfl
                    subst hq
                    clear HB1 HB0 HNO HYES
                    go_wp2_with fail
                    go_ret
                    exact ⟨rfl, LW.out.below⟩
                  | false =>
                    have A2 := Lib.hid (HB0.out rfl)
                    clear HB1 HB0 HBAD A
                    have hB10 := HB10.out
                    have ca2' := (BWc.out.cell (p := ⟨B10, 2, none⟩) hB10).trans ca2
                    have CA2 := Lib.hid (CA.out.below BWc.out)
                    have hBc : B10 < wc.heap.size := Nat.lt_of_lt_of_le hB10 BWc.out.size
                    have htl := CA.out.1
                    have HCELL := Lib.hid (fun (W : World) (hW : Below wc.heap.size wc W) (i : Nat) (hi : i < ts.length) => show ∃ b3 o3, ya = some ⟨b3, o3, none⟩ ∧ ∀ j (hj : j < ts.length), W.cell? ⟨b3, o3 + j, none⟩ = some (.int .i64 ts[j]) from by
                      obtain ⟨_, a3, cap3, e3, hc3⟩ := CA2.out.below hW
                      rcases hc3 with hc3 | ⟨b3, o3, rfl, _, hc3⟩
                      · rw [hc3] at hi; simp at hi
                      · simp only [Value.slice.injEq] at e3
                        exact ⟨b3, o3, e3.1, hc3⟩)
                    clear ca0 ca2 hpc2 hd2 hne hbn CA BWc LA
                    go_wp2_with fail
                    go_loopg [11] ts.length (fun gg s11 wi => ∃ k2 : Nat, 1 ≤ k2 ∧ (k2 ≤ ts.length ∨ k2 = 1) ∧ ts.length - k2 ≤ gg ∧ s11 = .int .i64 k2 ∧ Aside (Below wc.heap.size wc wi) ∧ Aside (∀ j (hj : j + 1 < ts.length), j + 1 < k2 → ts[j] < ts[j + 1]))
                    case atStart => exact ⟨1, Nat.le_refl _, .inr rfl, by omega, rfl, Below.refl _ _, fun j hj h0 => by omega⟩
                    case round =>
                      obtain ⟨k2, hk1, hk2, hg2, rfl, BW, D⟩ := hrel
                      have cw := (BW.out.cell (p := ⟨B10, 2, none⟩) hBc).trans ca2'
                      by_cases hlt2 : k2 < ts.length
                      · have hltz2 : (k2 : Int) < (ts.length : Int) := by omega
                        obtain ⟨b3, o3, rfl, hall⟩ := HCELL.out wr BW.out k2 hlt2
                        have hcell := hall k2 hlt2
                        have hcell0 := hall (k2 - 1) (by omega)
                        clear hall
                        have hpr := i64_pred k2 hk1 (by omega)
                        have hlt3 : ((k2 - 1 : Nat) : Int) < (ts.length : Int) := by omega
                        have HV := Lib.hid (fun (h : ts[k2] ≤ ts[k2 - 1]) => show q = 6 from HNO.out (pairB_no (j := k2 - 1) (by omega) (by
                          have e : (ts[k2 - 1 + 1]'(by omega)) = ts[k2] := by congr 1; omega
                          rw [e]
                          exact decide_eq_false (by omega))))
                        have HD2 := Lib.hid (fun (h : ¬ ts[k2] ≤ ts[k2 - 1]) => show ∀ j (hj : j + 1 < ts.length), j + 1 < k2 + 1 → ts[j] < ts[j + 1] from fun j hj hjk => by
                          by_cases e : j + 1 = k2
                          · have e2 : ts[j + 1] = ts[k2] := by congr 1
                            have e3 : ts[j] = ts[k2 - 1] := by congr 1; omega
                            rw [e2, e3]
                            omega
                          · exact D.out j hj (by omega))
                        generalize ts[k2] = y at hcell HV HD2
                        generalize ts[k2 - 1] = x at hcell0 HV HD2
                        go_wp2_with fail
                        go_quiet (fail)
                        clear hpr
                        by_cases hxy : y ≤ x
                        · have hq := HV.out hxy
                          subst hq
                          clear HV HD2 HNO HYES
                          go_wp2_with fail
                          go_ret
                          exact ⟨rfl, LW.out.below.trans ((below_drewN BW.out _).mono LW.out.below.size)⟩
                        · go_wp2_with fail
                          go_roundg (ts.length - (k2 + 1))
                          case measure => omega
                          case rel => exact ⟨k2 + 1, by omega, .inl (by omega), by omega, by go_num, below_drewN BW.out _, HD2.out hxy⟩
                      · have hltz2 : ¬ (k2 : Int) < (ts.length : Int) := by omega
                        have C2 := Lib.hid (HYES.out ((pairB_iff _ _).2 fun j hj => by
                          have := D.out j hj (by omega)
                          simpa using this))
                        have LX := Lib.hid (LW.out.later BW.out)
                        clear HYES HNO HCELL D
                        go_wp2_with fail
                        go_roundg (c.wins.length - (kk + 1))
                        case measure => omega
                        case rel => exact ⟨kk + 1, by omega, by omega, by go_num, LX.out, A2.out, C2.out⟩
              · have hltz : ¬ (kk : Int) < (c.wins.length : Int) := by omega
                have hkn : kk = c.wins.length := by omega
                have HQ4 := Lib.hid (HQ3.out.trans (if_neg (by
                  intro h
                  rcases h with h | h
                  · rw [show apartB c.wins = true from (pairB_iff _ _).2 fun j hj => by
                      have := A.out j hj (by omega)
                      simpa using this] at h
                    cases h
                  · rw [all_yes fun j hj => C.out j hj (by omega)] at h
                    cases h)))
                clear HQ3 A C
                have hd := HD.out _ L.out
                subst hkn
                go_wp2_with fail
                go_loopg [13, 116] c.wins.length (fun gg _ s116 wr => ∃ kk : Nat, kk ≤ c.wins.length ∧ c.wins.length - kk ≤ gg ∧ s116 = .int .i64 kk ∧ Aside (Box w wr w.heap.size c) ∧ Aside (∀ j (hj : j < c.wins.length), j < kk → (c.wins[j].ts.all fun n => inB n 0 ((c.room.length : Int) - 1)) = true))
                case atStart => exact ⟨0, Nat.zero_le _, by omega, rfl, L.out, fun j hj h0 => absurd h0 (Nat.not_lt_zero _)⟩
                case round =>
                  obtain ⟨kk, hkk, hg, rfl, L, A⟩ := hrel
                  by_cases hlt : kk < c.wins.length
                  · have hltz : (kk : Int) < (c.wins.length : Int) := by omega
                    obtain ⟨b, off, rfl, hb, c0, c1, c2, hin⟩ := HWIN.out _ L.out kk hlt
                    obtain ⟨ya, yc, ey⟩ := hin.form
                    have HNO := Lib.hid (fun (h : (c.wins[kk].ts.all fun n => inB n 0 ((c.room.length : Int) - 1)) = false) => show q = 2 by
                      rw [HQ4.out, if_pos (all_no (k := kk) hlt h)])
                    have HYES := Lib.hid (fun (h : (c.wins[kk].ts.all fun n => inB n 0 ((c.room.length : Int) - 1)) = true) => show ∀ j (hj : j < c.wins.length), j < kk + 1 → (c.wins[j].ts.all fun n => inB n 0 ((c.room.length : Int) - 1)) = true from fun j hj hjk => by
                      by_cases e : j = kk
                      · subst e; exact h
                      · exact A.out j hj (by omega))
                    rw [ey] at c2
                    have hin2 := hin
                    rw [ey] at hin2
                    have LA := Lib.hid (L.out.later (Below.alloc1 wr (.cells #[.int .i64 c.wins[kk].frm, .int .i64 c.wins[kk].til, .slice ya c.wins[kk].ts.length yc] 58)))
                    have HIN := Lib.hid (hin2.below (Below.alloc1 wr (.cells #[.int .i64 c.wins[kk].frm, .int .i64 c.wins[kk].til, .slice ya c.wins[kk].ts.length yc] 58)))
                    clear hin hin2 ey A
                    generalize c.wins[kk].frm = kf at *
                    generalize c.wins[kk].til = kt at *
                    generalize c.wins[kk].ts = ts at *
                    go_wp2_with fail
                    clear c0 c1 c2 hd L
                    generalize wr.alloc (.cells #[.int .i64 kf, .int .i64 kt, .slice ya ts.length yc] 58) = Wk at *
                    have hd2 := HD.out _ LA.out
                    have htl := HIN.out.1
                    have HCELL := Lib.hid (fun (i : Nat) (hi : i < ts.length) => show ∃ b3 o3, ya = some ⟨b3, o3, none⟩ ∧ Wk.cell? ⟨b3, o3 + i, none⟩ = some (.int .i64 ts[i]) from by
                      obtain ⟨b3, o3, cap3, hs3, _, h3⟩ := HIN.out.row hi
                      simp only [Value.slice.injEq] at hs3
                      exact ⟨b3, o3, hs3.1, h3⟩)
                    go_loopg [15, 123] ts.length (fun gg _ s123 wi => ∃ k2 : Nat, k2 ≤ ts.length ∧ ts.length - k2 ≤ gg ∧ s123 = .int .i64 k2 ∧ wi = Wk ∧ Aside (∀ j (hj : j < ts.length), j < k2 → inB ts[j] 0 ((c.room.length : Int) - 1) = true))
                    case atStart => exact ⟨0, Nat.zero_le _, by omega, rfl, rfl, fun j hj h0 => absurd h0 (Nat.not_lt_zero _)⟩
                    case round =>
                      obtain ⟨k2, hk2, hg2, rfl, rfl, D⟩ := hrel
                      by_cases hlt2 : k2 < ts.length
                      · have hltz2 : (k2 : Int) < (ts.length : Int) := by omega
                        obtain ⟨b3, o3, rfl, hc⟩ := HCELL.out k2 hlt2
                        have HV := Lib.hid (fun (h : inB ts[k2] 0 ((c.room.length : Int) - 1) = false) => show q = 2 from HNO.out (all_no (k := k2) hlt2 h))
                        have HD2 := Lib.hid (fun (h : inB ts[k2] 0 ((c.room.length : Int) - 1) = true) => show ∀ j (hj : j < ts.length), j < k2 + 1 → inB ts[j] 0 ((c.room.length : Int) - 1) = true from fun j hj hjk => by
                          by_cases e : j = k2
                          · subst e; exact h
                          · exact D.out j hj (by omega))
                        generalize ts[k2] = y at hc HV HD2
                        by_cases hy1 : y < 0
                        · have hq := HV.out (by unfold inB; simp; omega)
                          subst hq
                          clear HV HD2 HNO HYES
                          go_wp2_with fail
                          go_ret
                          exact ⟨rfl, LA.out.below⟩
                        · by_cases hy2 : (c.room.length : Int) ≤ y
                          · have hq := HV.out (by unfold inB; simp; omega)
                            subst hq
                            clear HV HD2 HNO HYES
                            go_wp2_with fail
                            go_ret
                            exact ⟨rfl, LA.out.below⟩
                          · go_wp2_with fail
                            go_roundg (ts.length - (k2 + 1))
                            case measure => omega
                            case rel => exact ⟨k2 + 1, by omega, by omega, by go_num, rfl, HD2.out (by unfold inB; simp; omega)⟩
                      · have hltz2 : ¬ (k2 : Int) < (ts.length : Int) := by omega
                        have C2 := Lib.hid (HYES.out (all_yes fun j hj => D.out j hj (by omega)))
                        clear HYES HNO HCELL D
                        go_wp2_with fail
                        go_roundg (c.wins.length - (kk + 1))
                        case measure => omega
                        case rel => exact ⟨kk + 1, by omega, by omega, by go_num, LA.out, C2.out⟩
                  · have hltz : ¬ (kk : Int) < (c.wins.length : Int) := by omega
                    have hkn : kk = c.wins.length := by omega
                    have HQ5 := Lib.hid (HQ4.out.trans (if_neg (by rw [all_yes fun j hj => A.out j hj (by omega)]; simp)))
                    clear HQ4 A
                    have hd := HD.out _ L.out
                    subst hkn
                    by_cases hne : (c.team.length : Int) = n
                    · have hbe : ((c.team.length : Int) != n) = false := by simpa using hne
                      have HNN := Lib.hid hne
                      clear hne
                      go_wp2_with fail
                      clear hbe
                      go_loopg [146] c.team.length (fun gg s146 wi => ∃ k2 : Nat, k2 ≤ c.team.length ∧ c.team.length - k2 ≤ gg ∧ s146 = .int .i64 k2 ∧ wi = wr ∧ Aside (∀ j (hj : j < c.team.length), j < k2 → inB c.team[j] 0 ((c.room.length : Int) - 1) = true))
                      case atStart => exact ⟨0, Nat.zero_le _, by omega, rfl, rfl, fun j hj h0 => absurd h0 (Nat.not_lt_zero _)⟩
                      case round =>
                        obtain ⟨k2, hk2, hg2, rfl, rfl, D⟩ := hrel
                        by_cases hlt2 : k2 < c.team.length
                        · have hltz2 : (k2 : Int) < (c.team.length : Int) := by omega
                          obtain ⟨b3, o3, rfl, hc⟩ := HTEAM.out _ L.out k2 hlt2
                          have HV := Lib.hid (fun (h : inB c.team[k2] 0 ((c.room.length : Int) - 1) = false) => show q = 1 by
                            rw [HQ5.out, if_pos (.inr (all_no (k := k2) hlt2 h))])
                          have HD2 := Lib.hid (fun (h : inB c.team[k2] 0 ((c.room.length : Int) - 1) = true) => show ∀ j (hj : j < c.team.length), j < k2 + 1 → inB c.team[j] 0 ((c.room.length : Int) - 1) = true from fun j hj hjk => by
                            by_cases e : j = k2
                            · subst e; exact h
                            · exact D.out j hj (by omega))
                          generalize c.team[k2] = y at hc HV HD2
                          by_cases hy1 : y < 0
                          · have hq := HV.out (by unfold inB; simp; omega)
                            subst hq
                            clear HV HD2
                            go_wp2_with fail
                            go_ret
                            exact ⟨rfl, L.out.below⟩
                          · by_cases hy2 : (c.room.length : Int) ≤ y
                            · have hq := HV.out (by unfold inB; simp; omega)
                              subst hq
                              clear HV HD2
                              go_wp2_with fail
                              go_ret
                              exact ⟨rfl, L.out.below⟩
                            · go_wp2_with fail
                              go_roundg (c.team.length - (k2 + 1))
                              case measure => omega
                              case rel => exact ⟨k2 + 1, by omega, by omega, by go_num, rfl, HD2.out (by unfold inB; simp; omega)⟩
                        · have hltz2 : ¬ (k2 : Int) < (c.team.length : Int) := by omega
                          have hq : q = 0 := by
                            rw [HQ5.out, if_neg]
                            intro h
                            rcases h with h | h
                            · exact h HNN.out
                            · rw [all_yes fun j hj => D.out j hj (by omega)] at h
                              cases h
                          subst hq
                          go_wp2_with fail
                          go_ret
                          exact ⟨rfl, L.out.below⟩
                    · have hq : q = 1 := by rw [HQ5.out, if_pos (.inl hne)]
                      subst hq
                      have hbe : ((c.team.length : Int) != n) = true := by simpa using hne
                      go_wp2_with fail
                      go_ret
                      exact ⟨rfl, L.out.below⟩
end Go.Proofs.Ytpbahffkhpfakaa


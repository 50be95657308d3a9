import Derived.Test.YtpbahffkhpfakaaFil4
import Derived.Test.YtpbahffkhpfakaaWLo5
namespace Go.Proofs.Ytpbahffkhpfakaa
open Go.RowKit
set_option linter.unusedSimpArgs false
set_option linter.unusedVariables false

/-! ## The law of the loads -/

set_option maxRecDepth 100000 in
set_option maxHeartbeats 4000000 in
theorem loadsLaw_heavy (a : Option Addr) (len cap : Nat) (w : World) (hl : 400 < len) (hm : (len : Int) ≤ 9223372036854775807) :
    Calls Try.prog 5 #[.slice a len cap] w fun e w' => e = .returned (.bool true) ∧ Below w.heap.size w w' := by
  have h1 := fun w1 => light_any a len cap w1 hm
  have hd : decide (len ≤ 400) = false := decide_eq_false (by omega)
  rw [hd] at h1
  have H1 := Lib.hid h1
  clear h1
  go_enter Try.func5, Try.ntmps5
  go_wp2_with fail
  refine (H1.out _).mono ?_
  rintro e w1 ⟨rfl, rfl⟩
  go_wp2_with fail
  refine (awake_any _).mono ?_
  rintro e w1 ⟨rfl, hb⟩
  have HB := Lib.hid hb
  clear hb
  go_wp2_with fail
  go_ret
  exact ⟨rfl, HB.out⟩

set_option maxRecDepth 100000 in
set_option maxHeartbeats 8000000 in
theorem loadsLaw_light (a : Option Addr) (len cap : Nat) (w : World) (hl : len ≤ 400) (hr : RowAt w w.heap.size a len) :
    Calls Try.prog 5 #[.slice a len cap] w fun e w' => e = .returned (.bool true) ∧ Below w.heap.size w w' := by
  have h1 := fun w1 => light_any a len cap w1 (by omega)
  have hd : decide (len ≤ 400) = true := decide_eq_true (by omega)
  rw [hd] at h1
  have H1 := Lib.hid h1
  have H2 := Lib.hid (roll_any a len cap w hl hr)
  clear h1 hr hd
  go_enter Try.func5, Try.ntmps5
  go_wp2_with fail
  refine (H1.out _).mono ?_
  rintro e w1 ⟨rfl, rfl⟩
  go_wp2_with fail
  refine H2.out.mono ?_
  rintro e w1 ⟨rfl, hb, hs, hdi⟩
  have HB1 := Lib.hid hb
  have HS1 := Lib.hid hs
  have HDI := Lib.hid hdi
  clear hb hs hdi H1 H2
  generalize hp : w.heap.size = p at *
  go_wp2_with fail
  refine (fill_any p w1 HDI.out).mono ?_
  rintro e w2 ⟨c, va, vb, ts, ds, rfl, hD, hft, h6, hdg, hck, hrow, nA, nB⟩
  have hD2 := hdg.dice
  have hps : p < w2.heap.size := by have := hdg.size; have := HS1.out; omega
  have hcal := hck.now hD2
  have HB2 := Lib.hid (HB1.out.trans (hdg.below (Nat.le_refl _) (by have := HS1.out; omega)))
  have HD := Lib.hid hD
  have HFT := Lib.hid hft
  have H6 := Lib.hid h6
  have HN1 := Lib.hid nA
  have HROOM := Lib.hid (show c.room.length = 2 by obtain ⟨x, y, e, _⟩ := hD.room; rw [e]; rfl)
  have HLEN := Lib.hid (show ts.length = ds.length from (load_ok hft.ok).1)
  obtain ⟨wa, wc, ta, tc, ra, rc, hS⟩ := hcal.shape
  have HSH := Lib.hid hS
  have hdw0 : Dg p w2 (w2.alloc (.cells #[.slice wa c.wins.length wc, .slice ta c.team.length tc, .slice ra c.room.length rc] 25)) := (Dg.refl hD2).alloc _
  have hb3 : Below p w2 (w2.alloc (.cells #[.slice wa c.wins.length wc, .slice ta c.team.length tc, .slice ra c.room.length rc] 25)) := (Below.refl _ _).alloc (by omega) _
  have HI3 := Lib.hid (kept_in (c := c) (w4 := w2.alloc (.cells #[.slice wa c.wins.length wc, .slice ta c.team.length tc, .slice ra c.room.length rc] 25)) 25 hck hps hD2 (by rw [hS.e1, hS.e2, hS.e3]; exact Dg.refl hdw0.dice))
  have HR3 := Lib.hid (hrow _ hdw0)
  have HB3 := Lib.hid (HB2.out.trans hb3)
  have HCE := Lib.hid (fun (W W' : World) (hL : CalIn W' W w2.heap.size c) => show W.cell? ⟨w2.heap.size, 0, none⟩ = some (.slice wa c.wins.length wc) ∧ W.cell? ⟨w2.heap.size, 1, none⟩ = some (.slice ta c.team.length tc) ∧ W.cell? ⟨w2.heap.size, 2, none⟩ = some (.slice ra c.room.length rc) from ⟨by rw [← hS.e1]; exact hL.d0, by rw [← hS.e2]; exact hL.d1, by rw [← hS.e3]; exact hL.d2⟩)
  rw [hS.val]
  have HRF := Lib.hid (show c.rv = .slice ra c.room.length rc from hS.e3)
  have h900 : p ≤ (w2.alloc (.cells #[.slice wa c.wins.length wc, .slice ta c.team.length tc, .slice ra c.room.length rc] 25)).heap.size := by simp; omega
  have HP3 := Lib.hid h900
  have hd := HCE.out _ _ HI3.out
  clear hD hft h6 hdg hck hD2 hrow nA nB hcal hS hdw0 hb3 HB1 HDI HS1 HB2 h900
  go_wp2_with fail
  generalize w2.alloc (.cells #[.slice wa c.wins.length wc, .slice ta c.team.length tc, .slice ra c.room.length rc] 25) = W3 at *
  have hwl := wload_ok c va vb ts ds W3 HI3.out.cal HR3.out.1 HR3.out.2 HN1.out HFT.out.ok
  rw [HSH.out.val] at hwl
  refine hwl.mono ?_
  clear hwl hd
  rintro e w5 ⟨v, s, gs, F, rfl, hs, hO, hgl, hFF, hb⟩
  have HI5 := Lib.hid (HI3.out.later hb)
  have HR5 := Lib.hid (show IntsAt w5 va ts ∧ IntsAt w5 vb ds from ⟨HR3.out.1.below hb, HR3.out.2.below hb⟩)
  have HFF := Lib.hid hFF
  have HO5 := Lib.hid hO
  have HG := Lib.hid hgl
  obtain ⟨bv, cv, rfl, -, -, -, -⟩ := hO.row (i := 0) (by have := HD.out.few; omega)
  have hfit := fits_any c va vb ts ds w5 HI5.out.cal HR5.out.1 HR5.out.2 HN1.out
  rw [HFT.out.fits, HSH.out.val] at hfit
  have HFIT := Lib.hid hfit
  have hd := HCE.out _ _ HI5.out
  rw [hgl]
  clear hs hO hgl hFF hb HI3 HR3 hfit
  go_wp2_with fail
  refine HFIT.out.mono ?_
  rintro e w6 ⟨rfl, hb⟩
  have HI6 := Lib.hid (HI5.out.later hb)
  have HR6 := Lib.hid (show IntsAt w6 va ts ∧ IntsAt w6 vb ds from ⟨HR5.out.1.below hb, HR5.out.2.below hb⟩)
  have HO6 := Lib.hid (HO5.out.below hb)
  have hd := HCE.out _ _ HI6.out
  clear hb HFIT HI5 HR5 HO5
  go_wp2_with fail
  obtain ⟨aa, ma, rfl⟩ := HR6.out.1.form
  obtain ⟨ab, mb, rfl⟩ := HR6.out.2.form
  clear hd
  have HAT := Lib.hid (fun (W : World) (k : Int) (hW : CalIn W3 W w2.heap.size c) => show Calls Try.prog 17 #[.agg #[.slice wa c.wins.length wc, .slice ta c.team.length tc, .slice ra c.room.length rc], .int .i64 k] W fun e w' => e = .returned (.tuple #[.int .i64 (max (atF c k) 0), .bool (decide (0 ≤ atF c k)), .int .i64 0]) ∧ Below W.heap.size W w' from by
    have h := at_ok c k W hW.cal (loadE_zero HFT.out.ok)
    rw [HSH.out.val] at h
    exact h)
  have HW8 := Lib.hid (show c.wins.length ≤ 32 ∧ c.room.length ≤ 8 from ⟨(ok0_of (loadE_zero HFT.out.ok)).wins, (ok0_of (loadE_zero HFT.out.ok)).room⟩)
  go_loopg [8, 55] c.wins.length (fun gg s8 s55 wr => ∃ i : Nat, i ≤ c.wins.length ∧ c.wins.length - i ≤ gg ∧ s55 = .int .i64 i ∧ s8 = .int .i64 (ahead c (ts.zip ds) (i * 8)) ∧ Aside (Below w6.heap.size w6 wr))
  case atStart => exact ⟨0, Nat.zero_le _, by omega, rfl, by rw [show 0 * 8 = 0 from rfl, HFT.out.ahead_start], Below.refl _ _⟩
  case round =>
    obtain ⟨i, hi, hg, rfl, rfl, BW⟩ := hrel
    have LI := Lib.hid (HI6.out.later BW.out)
    by_cases hlt : i < c.wins.length
    · have hltz : (i : Int) < (c.wins.length : Int) := by omega
      have LO := Lib.hid (HO6.out.below BW.out)
      obtain ⟨bv', cv', e0, -, -, -, hrow⟩ := LO.out.row (i := i) (by rw [HG.out]; exact hlt)
      simp only [Value.slice.injEq, Option.some.injEq, Addr.mk.injEq, and_true] at e0
      obtain ⟨rfl, -, rfl⟩ := e0
      unfold rowV at hrow
      have hd := HCE.out _ _ LI.out
      obtain ⟨G, hG⟩ : ∃ G, G = gs[i]'(by rw [HG.out]; exact hlt) := ⟨_, rfl⟩
      rw [← hG] at hrow
      have HGG := Lib.hid hG
      clear hG
      go_wp2_with fail
      go_loopg [8, 68] c.room.length (fun gg s8 s68 wx => ∃ t : Nat, t ≤ c.room.length ∧ c.room.length - t ≤ gg ∧ s68 = .int .i64 t ∧ s8 = .int .i64 (ahead c (ts.zip ds) (i * 8 + t)) ∧ Aside (Below w6.heap.size w6 wx))
      case atStart => exact ⟨0, Nat.zero_le _, by omega, rfl, rfl, BW.out⟩
      case round =>
        obtain ⟨t, htn, hg2, rfl, rfl, BX⟩ := hrel
        by_cases hlt2 : t < c.room.length
        · have hltz2 : (t : Int) < (c.room.length : Int) := by omega
          have ht8 : t < 8 := by have := HW8.out; omega
          have ht9 : i < 32 := by have := HW8.out; omega
          have KO := HO6.out.below BX.out
          obtain ⟨k, hk⟩ : ∃ k, k = loadN c (ts.zip ds) (i * 8 + t) := ⟨_, rfl⟩
          have hcell : wr.cell? ⟨G, t, none⟩ = some (.int .i64 k) := by
            rw [HGG.out, hk, ← HFF.out i t hlt hlt2]
            refine (heap_cell (KO.rows i (by rw [HG.out]; exact hlt)) t).trans ?_
            rw [List.getElem?_toArray]
            exact nums_get _ _ _ hlt2
          have HK := Lib.hid hk
          clear hk KO
          go_wp2_with fail
          go_loopg [13, 75] ts.length (fun gg s13 s75 wy => ∃ kk : Nat, kk ≤ ts.length ∧ ts.length - kk ≤ gg ∧ s75 = .int .i64 kk ∧ s13 = .int .i64 (loadN c ((ts.zip ds).take kk) (i * 8 + t)) ∧ Aside (Below w6.heap.size w6 wy))
          case atStart => exact ⟨0, Nat.zero_le _, by omega, rfl, rfl, BX.out⟩
          case round =>
            obtain ⟨kk, hkk, hg3, rfl, rfl, BY⟩ := hrel
            by_cases hlt3 : kk < ts.length
            · have hltz3 : (kk : Int) < (ts.length : Int) := by omega
              have hk6 : kk < 6 := by have := H6.out; omega
              have hk2 : kk < ds.length := by have := HLEN.out; omega
              have hltz4 : (kk : Int) < (ds.length : Int) := by omega
              have hbd : Below wr.heap.size wr wr.drew := ⟨rfl, rfl, rfl, Nat.le_refl _, fun _ _ => rfl⟩
              have BD := Lib.hid (BY.out.trans (hbd.mono BY.out.size))
              have JD := Lib.hid (HI6.out.later BD.out)
              obtain ⟨m, t', hm, ht', ea, et, -⟩ := HFT.out.slot (p := (ts[kk], ds[kk])) (by rw [← zip_at hlt3 hk2]; exact List.getElem_mem _)
              simp only at ea et
              have hw := HFT.out.want hlt3 hk2 i t hlt2
              rw [ea, et] at hw
              have hle := loadN_le c ((ts.zip ds).take kk) (i * 8 + t)
              have hlen24 : ((ts.zip ds).take kk).length ≤ 24 := by have := H6.out; rw [List.length_take, List.length_zip]; omega
              have hwr : IntKind.i64.wrap (loadN c ((ts.zip ds).take kk) (i * 8 + t) + 1) = loadN c ((ts.zip ds).take kk) (i * 8 + t) + 1 := IntWalk.i64_in _ (by omega)
              obtain ⟨b3, o3, rfl, hb3, hc3⟩ := (HR6.out.1.below BD.out).cellAt hlt3
              obtain ⟨b4, o4, rfl, hb4, hc4⟩ := (HR6.out.2.below BD.out).cellAt hk2
              rw [et] at hc3
              obtain ⟨d, hdd⟩ : ∃ d, d = ds[kk] := ⟨_, rfl⟩
              rw [← hdd] at hc4 ea
              have HC4 := Lib.hid hc4
              have HC3 := Lib.hid hc3
              have HB4' := Lib.hid hb4
              have HB3' := Lib.hid hb3
              have HWANT := Lib.hid hw
              have HATM := Lib.hid (fun (W : World) (hW : CalIn W3 W w2.heap.size c) => show Calls Try.prog 17 #[.agg #[.slice wa c.wins.length wc, .slice ta c.team.length tc, .slice ra c.room.length rc], .int .i64 d] W fun e w' => e = .returned (.tuple #[.int .i64 m, .bool true, .int .i64 0]) ∧ Below W.heap.size W w' from by
                have h := HAT.out W d hW
                rw [ea, show max (m : Int) 0 = (m : Int) from by omega, show decide ((0 : Int) ≤ (m : Int)) = true from decide_eq_true (by omega)] at h
                exact h)
              have HSK := Lib.hid (fun (W : World) (hW : Below wr.drew.heap.size wr.drew W) => show W.cell? ⟨w2.heap.size, 0, none⟩ = some (.slice wa c.wins.length wc) ∧ W.cell? ⟨w2.heap.size, 1, none⟩ = some (.slice ta c.team.length tc) ∧ W.cell? ⟨w2.heap.size, 2, none⟩ = some (.slice ra c.room.length rc) ∧ W.cell? ⟨b4, o4 + kk, none⟩ = some (.int .i64 d) from by
                have h := HCE.out _ _ (JD.out.later hW)
                exact ⟨h.1, h.2.1, h.2.2, (hW.cell (p := ⟨b4, o4 + kk, none⟩) hb4).trans hc4⟩)
              have HBW := Lib.hid (Below.refl wr.drew.heap.size wr.drew)
              clear hbd hw hle hlen24 hb3 hb4 hc3 hc4 hdd ea et hcell hrow
              generalize loadN c ((ts.zip ds).take kk) (i * 8 + t) = x at *
              go_wp2_with fail
              go_region_held3 (fun W => W.cell? ⟨w2.heap.size, 0, none⟩ = some (.slice wa c.wins.length wc) ∧ W.cell? ⟨w2.heap.size, 1, none⟩ = some (.slice ta c.team.length tc) ∧ W.cell? ⟨w2.heap.size, 2, none⟩ = some (.slice ra c.room.length rc) ∧ W.cell? ⟨b4, o4 + kk, none⟩ = some (.int .i64 d)) (first | exact HSK.out _ HBW.out | exact HSK.out _ FIN.out)
                (first | (go_simp; go_at_call 17; refine (HATM.out _ JD.out).mono ?_; rintro e w7 ⟨rfl, hb⟩; have FIN := Lib.hid hb; clear hb))
              have hc3 := (FIN.out.cell (p := ⟨b3, o3 + kk, none⟩) HB3'.out).trans HC3.out
              have B7 := Lib.hid (BD.out.trans (FIN.out.mono BD.out.size))
              clear HSK HATM HBW HC4 HC3 JD
              by_cases e1 : (m : Int) = (i : Int)
              · by_cases e2 : (t' : Int) = (t : Int)
                · have hb1 : ((m : Int) == (i : Int)) = true := by simpa using e1
                  have hb2 : ((t' : Int) == (t : Int)) = true := by simpa using e2
                  have E12 := Lib.hid (And.intro e1 e2)
                  clear e1 e2
                  go_wp2_with fail
                  go_roundg (ts.length - (kk + 1))
                  case measure => omega
                  case rel => exact ⟨kk + 1, by omega, by omega, (by have := H6.out; go_num), by rw [HWANT.out, if_pos E12.out], B7.out⟩
                · have hb1 : ((m : Int) == (i : Int)) = true := by simpa using e1
                  have hb2 : ((t' : Int) == (t : Int)) = false := by simpa using e2
                  have E2 := Lib.hid e2
                  clear e1
                  go_wp2_with fail
                  go_roundg (ts.length - (kk + 1))
                  case measure => omega
                  case rel => exact ⟨kk + 1, by omega, by omega, (by have := H6.out; go_num), by rw [HWANT.out, if_neg (fun h => E2.out h.2)], B7.out⟩
              · have hb1 : ((m : Int) == (i : Int)) = false := by simpa using e1
                have E1 := Lib.hid e1
                go_wp2_with fail
                go_roundg (ts.length - (kk + 1))
                case measure => omega
                case rel => exact ⟨kk + 1, by omega, by omega, (by have := H6.out; go_num), by rw [HWANT.out, if_neg (fun h => E1.out h.1)], B7.out⟩
            · have hltz3 : ¬ (kk : Int) < (ts.length : Int) := by omega
              rw [List.take_of_length_le (by rw [List.length_zip]; omega), ← HK.out]
              have YI := Lib.hid (HI6.out.later BY.out)
              have hrr := YI.out.cal.room
              rw [HRF.out] at hrr
              obtain ⟨b5, o5, rfl, hb5, hc5⟩ := hrr.cellAt hlt2
              have hd := HCE.out _ _ YI.out
              have hle := HFT.out.le (i := i) (by have := HW8.out; omega) hlt2
              rw [← HK.out] at hle
              have hnle : ¬ c.room[t] < k := by omega
              have ha := ahead_le c (ts.zip ds) (i * 8 + t)
              have hk0 := loadN_le c (ts.zip ds) (i * 8 + t)
              rw [← HK.out] at hk0
              have hzl : ((ts.zip ds).length : Int) ≤ 24 := by have := H6.out; rw [List.length_zip]; omega
              have hwr : IntKind.i64.wrap (ahead c (ts.zip ds) (i * 8 + t) + k) = ahead c (ts.zip ds) (i * 8 + t) + k := IntWalk.i64_in _ (by omega)
              have HSUC := Lib.hid (show ahead c (ts.zip ds) (i * 8 + t) + k = ahead c (ts.zip ds) (i * 8 + (t + 1)) from by rw [HK.out, ← ahead_succ]; rfl)
              clear hle ha hk0 hzl hrr hb5
              go_wp2_with fail
              go_roundg (c.room.length - (t + 1))
              case measure => omega
              case rel => exact ⟨t + 1, by omega, by omega, (by have := HW8.out; go_num), by rw [HSUC.out], BY.out⟩
        · have hltz2 : ¬ (t : Int) < (c.room.length : Int) := by omega
          have ht9 : i < 32 := by have := HW8.out; omega
          have htt : t = c.room.length := by omega
          have HTT := Lib.hid htt
          clear htt
          go_wp2_with fail
          go_roundg (c.wins.length - (i + 1))
          case measure => omega
          case rel => exact ⟨i + 1, by omega, by omega, (by have := HW8.out; go_num), by rw [HFT.out.ahead_row, HTT.out], BX.out⟩
    · have hltz : ¬ (i : Int) < (c.wins.length : Int) := by omega
      have hie : i = c.wins.length := by omega
      subst hie
      rw [HFT.out.ahead_end]
      go_wp2_with fail
      refine (awake_any _).mono ?_
      rintro e w9 ⟨rfl, hb⟩
      have L9 := Lib.hid (LI.out.later hb)
      clear hb
      go_wp2_with fail
      go_ret
      exact ⟨rfl, (HB3.out.trans (L9.out.below.mono HP3.out)).mono (by omega)⟩
end Go.Proofs.Ytpbahffkhpfakaa

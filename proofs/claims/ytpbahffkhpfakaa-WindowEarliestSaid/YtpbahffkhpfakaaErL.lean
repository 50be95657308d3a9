import Derived.Test.YtpbahffkhpfakaaFil3
namespace Go.Proofs.Ytpbahffkhpfakaa
open Go.RowKit
set_option linter.unusedSimpArgs false
set_option linter.unusedVariables false

/-! ## The law of the earliest day -/

set_option maxRecDepth 100000 in
set_option maxHeartbeats 4000000 in
theorem earlLaw_heavy (a : Option Addr) (len cap : Nat) (fr0 : Nat) (w : World) (hl : 400 < len) (hm : (len : Int) ≤ 9223372036854775807) :
    Calls Try.prog 4 #[.slice a len cap, .int .u8 (fr0 : Int)] w fun e w' => e = .returned (.bool true) ∧ Below w.heap.size w w' := by
  have h1 := fun w1 => light_any a len cap w1 hm
  have hd : decide (len ≤ 400) = false := decide_eq_false (by omega)
  rw [hd] at h1
  have H1 := Lib.hid h1
  clear h1
  go_enter Try.func4, Try.ntmps4
  go_wp2_with fail
  refine (H1.out _).mono ?_
  rintro e w1 ⟨rfl, rfl⟩
  go_wp2_with fail
  refine (awake_any _).mono ?_
  rintro e w1 ⟨rfl, hb⟩
  have HB := Lib.hid hb
  clear hb
  go_wp2_with fail
  go_ret
  exact ⟨rfl, HB.out⟩

set_option maxRecDepth 100000 in
set_option maxHeartbeats 8000000 in
theorem earlLaw_light (a : Option Addr) (len cap : Nat) (fr0 : Nat) (w : World) (hf : fr0 < 256) (hl : len ≤ 400) (hr : RowAt w w.heap.size a len) :
    Calls Try.prog 4 #[.slice a len cap, .int .u8 (fr0 : Int)] w fun e w' => e = .returned (.bool true) ∧ Below w.heap.size w w' := by
  have h1 := fun w1 => light_any a len cap w1 (by omega)
  have hd : decide (len ≤ 400) = true := decide_eq_true (by omega)
  rw [hd] at h1
  have H1 := Lib.hid h1
  have H2 := Lib.hid (roll_any a len cap w hl hr)
  obtain ⟨n, hn⟩ : ∃ n, n = fr0 % 60 := ⟨_, rfl⟩
  have en : (fr0 : Int) % 60 = (n : Int) := by omega
  have hn80 : n < 60 := by omega
  have EN := Lib.hid en
  have HF := Lib.hid hf
  clear h1 hr hd hf hn en
  go_enter Try.func4, Try.ntmps4
  go_wp2_with fail
  refine (H1.out _).mono ?_
  rintro e w1 ⟨rfl, rfl⟩
  go_wp2_with fail
  refine H2.out.mono ?_
  rintro e w1 ⟨rfl, hb, hs, hdi⟩
  have HB1 := Lib.hid hb
  have HS1 := Lib.hid hs
  have HDI := Lib.hid hdi
  clear hb hs hdi H1 H2
  generalize hp : w.heap.size = p at *
  go_wp2_with fail
  refine (fill_any p w1 HDI.out).mono ?_
  rintro e w2 ⟨c, va, vb, ts, ds, rfl, hD, hft, h6, hdg, hck, hrow, nA, nB⟩
  have hD2 := hdg.dice
  have hps : p < w2.heap.size := by have := hdg.size; have := HS1.out; omega
  have hcal := hck.now hD2
  have HB2 := Lib.hid (HB1.out.trans (hdg.below (Nat.le_refl _) (by have := HS1.out; omega)))
  have HD := Lib.hid hD
  have HFT := Lib.hid hft
  have H6 := Lib.hid h6
  have HCK := Lib.hid hck
  have HD2 := Lib.hid hD2
  have HROW := Lib.hid hrow
  have HN1 := Lib.hid nA
  have HN2 := Lib.hid nB
  have HROOM := Lib.hid (show c.room.length = 2 by obtain ⟨x, y, e, _⟩ := hD.room; rw [e]; rfl)
  have HLEN := Lib.hid (show ts.length = ds.length from (load_ok hft.ok).1)
  obtain ⟨wa, wc, ta, tc, ra, rc, e1, e2, e3⟩ := hcal.forms
  have hv : c.val = .agg #[.slice wa c.wins.length wc, .slice ta c.team.length tc, .slice ra c.room.length rc] := by unfold Cal.val; rw [e1, e2, e3]
  have HIN := Lib.hid (fun (W : World) (hk : Dg p (w2.alloc (.cells #[.slice wa c.wins.length wc, .slice ta c.team.length tc, .slice ra c.room.length rc] 25)) W) => kept_in (c := c) 25 hck hps hD2 (by rw [e1, e2, e3]; exact hk))
  have HCE := Lib.hid (fun (W B) (hL : CalIn W W B c) => show W.cell? ⟨B, 0, none⟩ = some (.slice wa c.wins.length wc) ∧ W.cell? ⟨B, 1, none⟩ = some (.slice ta c.team.length tc) ∧ W.cell? ⟨B, 2, none⟩ = some (.slice ra c.room.length rc) from ⟨by rw [← e1]; exact hL.d0, by rw [← e2]; exact hL.d1, by rw [← e3]; exact hL.d2⟩)
  have HV := Lib.hid hv
  clear hD hft h6 hdg hck hD2 hrow nA nB hcal e1 e2 e3 HB1 HDI HS1
  rw [hv]
  clear hv
  have hpn : p ≠ w2.heap.size := by omega
  go_wp2_with fail
  have hdw0 : Dg p w2 (w2.alloc (.cells #[.slice wa c.wins.length wc, .slice ta c.team.length tc, .slice ra c.room.length rc] 25)) := (Dg.refl HD2.out).alloc _
  have hb3 : Below p w2 (w2.alloc (.cells #[.slice wa c.wins.length wc, .slice ta c.team.length tc, .slice ra c.room.length rc] 25)) := (Below.refl _ _).alloc (by omega) _
  refine (next_any p 2 _ hdw0.dice (by decide) (by decide)).mono ?_
  rintro e w4 ⟨⟨t, ht, rfl⟩, hk⟩
  have HI4 := Lib.hid (HIN.out w4 hk.dg)
  have HR4 := Lib.hid (HROW.out w4 (hdw0.trans hk.dg))
  have HB4 := Lib.hid ((HB2.out.trans hb3).trans (hk.dg.below (Nat.le_refl _) (by simp; omega)))
  have HT := Lib.hid (show t < c.room.length by have := HROOM.out; omega)
  have hdd := HCE.out w4 _ HI4.out
  clear hdw0 hb3 hk ht HIN HD2 HCK HB2 hpn HROW
  go_wp2_with fail
  rw [EN.out]
  have hnx := earliest_any c va vb ts ds (t : Int) n w4 HI4.out.cal HR4.out.1 HR4.out.2 HN1.out
  rw [(HFT.out.early HT.out n).1, HV.out] at hnx
  have hsp := earl_spec HD.out HFT.out HT.out (by have := H6.out; omega) (n : Int) (by omega)
  obtain ⟨z, hz⟩ : ∃ z, z = earlD c ts ds t (n : Int) := ⟨_, rfl⟩
  rw [← hz] at hnx hsp
  clear hz
  obtain ⟨zd, zb⟩ := z
  simp only at hnx hsp
  have HSP := Lib.hid hsp
  have HFIT := Lib.hid (fun (W0 W : World) (k : Int) (v1 : Value) (b : Value) (lb : List Int) (v2 : Value) (c2 : Value) (lc : List Int) (u : Unit) (hW : CalIn w4 W0 w2.heap.size c) (h : Reg4 W0 W v1 (ts ++ [(t : Int)]) b lb v2 (ds ++ [k]) c2 lc) => show Calls Try.prog 28 #[.agg #[.slice wa c.wins.length wc, .slice ta c.team.length tc, .slice ra c.room.length rc], v1, v2] W fun e w' => e = .returned (.int .i64 (fitsE c (ts ++ [(t : Int)]) (ds ++ [k]))) ∧ Below W.heap.size W w' from by
    have hf := fits_any c v1 v2 (ts ++ [(t : Int)]) (ds ++ [k]) W (hW.cal.below h.bel) (h.oa.at (by have := H6.out; simp; omega)) (h.oc.at (by have := H6.out; have := HLEN.out; simp; omega)) h.nilA
    rw [HV.out] at hf
    exact hf)
  have HCE2 := Lib.hid (fun (W : World) (hL : CalIn w4 W w2.heap.size c) => show W.cell? ⟨w2.heap.size, 0, none⟩ = some (.slice wa c.wins.length wc) ∧ W.cell? ⟨w2.heap.size, 1, none⟩ = some (.slice ta c.team.length tc) ∧ W.cell? ⟨w2.heap.size, 2, none⟩ = some (.slice ra c.room.length rc) from HCE.out W _ ⟨Below.refl _ _, hL.hB, hL.d0, hL.d1, hL.d2, hL.cal⟩)
  have HBS := Lib.hid (show p ≤ w4.heap.size by have := HB4.out.size; omega)
  have HL1 := Lib.hid (show ts.length ≤ 900 by have := H6.out; omega)
  have HL2 := Lib.hid (show ds.length ≤ 900 by have := H6.out; have := HLEN.out; omega)
  have HL3 := Lib.hid (show ts.length + [(t : Int)].length ≤ 900 by have := H6.out; simp; omega)
  have HL4 := Lib.hid (fun k : Int => show ds.length + [k].length ≤ 900 by have := H6.out; have := HLEN.out; simp; omega)
  clear hsp hdd HCE HT HD HFT HROOM EN HV H6 HLEN
  refine hnx.mono ?_
  clear hnx
  rintro e w5 ⟨rfl, hb⟩
  have HI5 := Lib.hid (HI4.out.later hb)
  clear hb HI4
  generalize w2.heap.size = B at *
  generalize c.wins.length = wn at *
  go_wp2_with fail
  go_loopg [14] (260 - n) (fun gg s14 wr => ∃ kk : Nat, n ≤ kk ∧ kk ≤ 260 ∧ 260 - kk ≤ gg ∧ s14 = .int .i64 kk ∧ Aside (CalIn w4 wr B c) ∧ Aside (zb = true → (kk : Int) ≤ zd))
  case atStart => exact ⟨n, Nat.le_refl _, by omega, Nat.le_refl _, rfl, HI5.out, fun h => (HSP.out.1 h).1⟩
  case round =>
    obtain ⟨kk, hnk, hkk, hg, rfl, L, A⟩ := hrel
    by_cases hlt : kk < 260
    · have hltz : (kk : Int) < 260 := by omega
      have hbd : Below wr.heap.size wr wr.drew := ⟨rfl, rfl, rfl, Nat.le_refl _, fun _ _ => rfl⟩
      have LW := Lib.hid (L.out.later hbd)
      have HI1 := Lib.hid (HR4.out.1.below LW.out.below)
      have HI2 := Lib.hid (HR4.out.2.below LW.out.below)
      have HL4' := Lib.hid (HL4.out (kk : Int))
      have HFI := Lib.hid (fun (W : World) (v1 : Value) (b : Value) (lb : List Int) (v2 : Value) (c2 : Value) (lc : List Int) (h : Reg4 wr.drew W v1 (ts ++ [(t : Int)]) b lb v2 (ds ++ [(kk : Int)]) c2 lc) => HFIT.out wr.drew W (kk : Int) v1 b lb v2 c2 lc () LW.out h)
      have HNO := Lib.hid (show (zb = true → (kk : Int) = zd → fitsE c (ts ++ [(t : Int)]) (ds ++ [(kk : Int)]) = 0) ∧ (zb = true → (kk : Int) < zd → fitsE c (ts ++ [(t : Int)]) (ds ++ [(kk : Int)]) ≠ 0) ∧ (zb = false → fitsE c (ts ++ [(t : Int)]) (ds ++ [(kk : Int)]) ≠ 0) from
        ⟨fun h1 h2 => by rw [h2]; exact (HSP.out.1 h1).2.2.1, fun h1 h2 => (HSP.out.1 h1).2.2.2 kk (by omega) h2, fun h1 => HSP.out.2 h1 kk (by omega)⟩)
      generalize fitsE c (ts ++ [(t : Int)]) (ds ++ [(kk : Int)]) = fe at *
      clear hbd HFIT L
      go_upto_region 12 with fail
      go_cut [15] from 50 to 62 (fun s15 wx => ∃ q : Bool, s15 = .bool q ∧ Aside (q = true ↔ fe = 0) ∧ Aside (CalIn w4 wx B c))
      case first =>
        have RR := Lib.hid (Reg4.nil wr.drew)
        have HSK := Lib.hid (fun (W : World) (hW : Below wr.drew.heap.size wr.drew W) => HCE2.out W (LW.out.later hW))
        go_region_held3 (fun W => W.cell? ⟨B, 0, none⟩ = some (.slice wa wn wc) ∧ W.cell? ⟨B, 1, none⟩ = some (.slice ta c.team.length tc) ∧ W.cell? ⟨B, 2, none⟩ = some (.slice ra c.room.length rc)) (first | exact HSK.out _ RR.out.bel | exact HSK.out _ (RR.out.qA (t : Int)).bel | exact HSK.out _ (RR.out.qB (kk : Int)).bel | exact HSK.out _ (RR.out.qAB (t : Int) (kk : Int)).bel | exact HSK.out _ (RR.out.qBA (t : Int) (kk : Int)).bel | exact HSK.out _ FIN.out) (first
          | (refine wsx_app rfl (.const (.slice none 0 0)) (.tmp 51) rfl rfl (RR.out.a2 HI1.out HN1.out HL1.out) rfl rfl rfl ?_; intro v3 w3 R3; clear RR; have RR := Lib.hid R3; clear R3)
          | (refine wsx_app rfl (.const (.slice none 0 0)) (.tmp 51) rfl rfl ((RR.out.qA (t : Int)).a2 HI1.out HN1.out HL1.out) rfl rfl rfl ?_; intro v3 w3 R3; clear RR; have RR := Lib.hid R3; clear R3)
          | (refine wsx_app rfl (.const (.slice none 0 0)) (.tmp 51) rfl rfl ((RR.out.qB (kk : Int)).a2 HI1.out HN1.out HL1.out) rfl rfl rfl ?_; intro v3 w3 R3; clear RR; have RR := Lib.hid R3; clear R3)
          | (refine wsx_app rfl (.const (.slice none 0 0)) (.tmp 51) rfl rfl ((RR.out.qAB (t : Int) (kk : Int)).a2 HI1.out HN1.out HL1.out) rfl rfl rfl ?_; intro v3 w3 R3; clear RR; have RR := Lib.hid R3; clear R3)
          | (refine wsx_app rfl (.const (.slice none 0 0)) (.tmp 51) rfl rfl ((RR.out.qBA (t : Int) (kk : Int)).a2 HI1.out HN1.out HL1.out) rfl rfl rfl ?_; intro v3 w3 R3; clear RR; have RR := Lib.hid R3; clear R3)
          | (refine wsx_app rfl (.tmp 52) (.tmp 54) rfl rfl (RR.out.a4 HL3.out) rfl rfl rfl ?_; intro v3 w3 R3; clear RR; have RR := Lib.hid R3; clear R3)
          | (refine wsx_app rfl (.tmp 52) (.tmp 54) rfl rfl ((RR.out.qA (t : Int)).a4 HL3.out) rfl rfl rfl ?_; intro v3 w3 R3; clear RR; have RR := Lib.hid R3; clear R3)
          | (refine wsx_app rfl (.tmp 52) (.tmp 54) rfl rfl ((RR.out.qB (kk : Int)).a4 HL3.out) rfl rfl rfl ?_; intro v3 w3 R3; clear RR; have RR := Lib.hid R3; clear R3)
          | (refine wsx_app rfl (.tmp 52) (.tmp 54) rfl rfl ((RR.out.qAB (t : Int) (kk : Int)).a4 HL3.out) rfl rfl rfl ?_; intro v3 w3 R3; clear RR; have RR := Lib.hid R3; clear R3)
          | (refine wsx_app rfl (.tmp 52) (.tmp 54) rfl rfl ((RR.out.qBA (t : Int) (kk : Int)).a4 HL3.out) rfl rfl rfl ?_; intro v3 w3 R3; clear RR; have RR := Lib.hid R3; clear R3)
          | (refine wsx_app rfl (.const (.slice none 0 0)) (.tmp 56) rfl rfl (RR.out.a6 HI2.out HN2.out HL2.out) rfl rfl rfl ?_; intro v3 w3 R3; clear RR; have RR := Lib.hid R3; clear R3)
          | (refine wsx_app rfl (.const (.slice none 0 0)) (.tmp 56) rfl rfl ((RR.out.qA (t : Int)).a6 HI2.out HN2.out HL2.out) rfl rfl rfl ?_; intro v3 w3 R3; clear RR; have RR := Lib.hid R3; clear R3)
          | (refine wsx_app rfl (.const (.slice none 0 0)) (.tmp 56) rfl rfl ((RR.out.qB (kk : Int)).a6 HI2.out HN2.out HL2.out) rfl rfl rfl ?_; intro v3 w3 R3; clear RR; have RR := Lib.hid R3; clear R3)
          | (refine wsx_app rfl (.const (.slice none 0 0)) (.tmp 56) rfl rfl ((RR.out.qAB (t : Int) (kk : Int)).a6 HI2.out HN2.out HL2.out) rfl rfl rfl ?_; intro v3 w3 R3; clear RR; have RR := Lib.hid R3; clear R3)
          | (refine wsx_app rfl (.const (.slice none 0 0)) (.tmp 56) rfl rfl ((RR.out.qBA (t : Int) (kk : Int)).a6 HI2.out HN2.out HL2.out) rfl rfl rfl ?_; intro v3 w3 R3; clear RR; have RR := Lib.hid R3; clear R3)
          | (refine wsx_app rfl (.tmp 57) (.tmp 59) rfl rfl (RR.out.a8 HL4'.out) rfl rfl rfl ?_; intro v3 w3 R3; clear RR; have RR := Lib.hid R3; clear R3)
          | (refine wsx_app rfl (.tmp 57) (.tmp 59) rfl rfl ((RR.out.qA (t : Int)).a8 HL4'.out) rfl rfl rfl ?_; intro v3 w3 R3; clear RR; have RR := Lib.hid R3; clear R3)
          | (refine wsx_app rfl (.tmp 57) (.tmp 59) rfl rfl ((RR.out.qB (kk : Int)).a8 HL4'.out) rfl rfl rfl ?_; intro v3 w3 R3; clear RR; have RR := Lib.hid R3; clear R3)
          | (refine wsx_app rfl (.tmp 57) (.tmp 59) rfl rfl ((RR.out.qAB (t : Int) (kk : Int)).a8 HL4'.out) rfl rfl rfl ?_; intro v3 w3 R3; clear RR; have RR := Lib.hid R3; clear R3)
          | (refine wsx_app rfl (.tmp 57) (.tmp 59) rfl rfl ((RR.out.qBA (t : Int) (kk : Int)).a8 HL4'.out) rfl rfl rfl ?_; intro v3 w3 R3; clear RR; have RR := Lib.hid R3; clear R3)
          | (go_simp; go_at_call 28; refine (HFI.out _ _ _ _ _ _ _ RR.out).mono ?_; rintro e w4 ⟨rfl, hb⟩; have FIN := Lib.hid (RR.out.bel.trans (hb.mono RR.out.bel.size)); clear RR hb))
        all_goals (go_wp2_with fail; go_meet; exact ⟨_, rfl, (show _ ↔ _ by simp), LW.out.later FIN.out⟩)
      case rest =>
        obtain ⟨q, rfl, HQ, L2⟩ := hcut
        clear HI1 HI2 HFI LW
        cases zb with
        | false =>
          have hq : q = false := by
            cases q with
            | false => rfl
            | true => exact absurd (HQ.out.1 rfl) (HNO.out.2.2 rfl)
          subst hq
          go_wp2_with fail
          go_roundg (260 - (kk + 1))
          case measure => omega
          case rel => exact ⟨kk + 1, by omega, by omega, by omega, by go_num, L2.out, fun h => by cases h⟩
        | true =>
          by_cases hkz : (kk : Int) = zd
          · have hq : q = true := HQ.out.2 (HNO.out.1 rfl hkz)
            subst hq
            subst hkz
            go_wp2_with fail
            refine (awake_any _).mono ?_
            rintro e w9 ⟨rfl, hb⟩
            have L9 := Lib.hid (L2.out.later hb)
            clear hb
            go_wp2_with fail
            go_ret
            exact ⟨rfl, (HB4.out.trans (L9.out.below.mono HBS.out)).mono (by omega)⟩
          · have hlt3 : (kk : Int) < zd := by have := A.out rfl; omega
            have hq : q = false := by
              cases q with
              | false => rfl
              | true => exact absurd (HQ.out.1 rfl) (HNO.out.2.1 rfl hlt3)
            subst hq
            have HLT := Lib.hid hlt3
            clear hlt3
            have hbe : ((kk : Int) == zd) = false := by simpa using hkz
            go_wp2_with fail
            go_roundg (260 - (kk + 1))
            case measure => omega
            case rel => exact ⟨kk + 1, by omega, by omega, by omega, by go_num, L2.out, fun _ => by have h2 := HLT.out; omega⟩
    · have hltz : ¬ (kk : Int) < 260 := by omega
      have hzb : zb = false := by
        cases zb with
        | false => rfl
        | true =>
          exfalso
          have h1 := A.out (by first | rfl | trivial)
          have h2 := (HSP.out.1 (by first | rfl | trivial)).2.1
          omega
      subst hzb
      go_wp2_with fail
      refine (awake_any _).mono ?_
      rintro e w9 ⟨rfl, hb⟩
      have L9 := Lib.hid (L.out.later hb)
      clear hb
      go_wp2_with fail
      go_ret
      exact ⟨rfl, (HB4.out.trans (L9.out.below.mono HBS.out)).mono (by omega)⟩
end Go.Proofs.Ytpbahffkhpfakaa

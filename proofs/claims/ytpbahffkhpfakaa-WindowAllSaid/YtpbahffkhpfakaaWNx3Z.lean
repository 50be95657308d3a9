import Derived.Test.YtpbahffkhpfakaaWNx2Z
namespace Go.Proofs.Ytpbahffkhpfakaa
open Go.RowKit
set_option linter.unusedSimpArgs false
set_option linter.unusedVariables false

/-! ## The law of the next day -/

theorem Dg.below {p B : Nat} {a b : World} (h : Dg p a b) (hB : B ≤ p) (hs : B ≤ a.heap.size) : Below B a b := ⟨h.os, h.tape, h.output, h.size, fun k hk => h.block k (by omega) (by omega)⟩
theorem CalKept.soft {p : Nat} {w w' : World} {c : Cal} (h : CalKept p w c) (hd : Dg p w w') : CalKept p w' c := fun W hW => h W (hd.trans hW)
theorem CalKept.now {p : Nat} {w : World} {c : Cal} (h : CalKept p w c) (hd : DiceAt w p) : CalAt w c := h w (Dg.refl hd)
/-- a drawn calendar laid in a variable, and dice thrown behind it -/
theorem kept_in {p : Nat} {w w4 : World} {c : Cal} (T : TypeId) (h : CalKept p w c) (hp : p < w.heap.size) (hd : DiceAt w p) (hk : Dg p (w.alloc (.cells #[c.wv, c.tv, c.rv] T)) w4) : CalIn w4 w4 w.heap.size c := by
  have h1 := cal_in w w c (Below.refl _ _) (h.now hd) T
  have hs : w.heap.size < (w.alloc (.cells #[c.wv, c.tv, c.rv] T)).heap.size := by simp
  have hc : ∀ o, w4.cell? ⟨w.heap.size, o, none⟩ = (w.alloc (.cells #[c.wv, c.tv, c.rv] T)).cell? ⟨w.heap.size, o, none⟩ := fun o => hk.cell (x := ⟨w.heap.size, o, none⟩) (show w.heap.size ≠ p by omega) hs
  exact ⟨Below.refl _ _, Nat.lt_of_lt_of_le hs hk.size, (hc 0).trans h1.d0, (hc 1).trans h1.d1, (hc 2).trans h1.d2, h w4 (((Dg.refl hd).alloc _).trans hk)⟩

set_option maxRecDepth 100000 in
set_option maxHeartbeats 4000000 in
theorem nextLaw_heavy (a : Option Addr) (len cap : Nat) (fr0 : Nat) (w : World) (hl : 400 < len) (hm : (len : Int) ≤ 9223372036854775807) :
    Calls Try.prog 6 #[.slice a len cap, .int .u8 (fr0 : Int)] w fun e w' => e = .returned (.bool true) ∧ Below w.heap.size w w' := by
  have h1 := fun w1 => light_any a len cap w1 hm
  have hd : decide (len ≤ 400) = false := decide_eq_false (by omega)
  rw [hd] at h1
  have H1 := Lib.hid h1
  clear h1
  go_enter Try.func6, Try.ntmps6
  go_wp2_with fail
  refine (H1.out _).mono ?_
  rintro e w1 ⟨rfl, rfl⟩
  go_wp2_with fail
  refine (awake_any _).mono ?_
  rintro e w1 ⟨rfl, hb⟩
  have HB := Lib.hid hb
  clear hb
  go_wp2_with fail
  go_ret
  exact ⟨rfl, HB.out⟩

set_option maxRecDepth 100000 in
set_option maxHeartbeats 8000000 in
theorem nextLaw_light (a : Option Addr) (len cap : Nat) (fr0 : Nat) (w : World) (hf : fr0 < 256) (hl : len ≤ 400) (hr : RowAt w w.heap.size a len) :
    Calls Try.prog 6 #[.slice a len cap, .int .u8 (fr0 : Int)] w fun e w' => e = .returned (.bool true) ∧ Below w.heap.size w w' := by
  have h1 := fun w1 => light_any a len cap w1 (by omega)
  have hd : decide (len ≤ 400) = true := decide_eq_true (by omega)
  rw [hd] at h1
  have H1 := Lib.hid h1
  have H2 := Lib.hid (roll_any a len cap w hl hr)
  obtain ⟨n, hn⟩ : ∃ n, n = fr0 % 80 := ⟨_, rfl⟩
  have en : (fr0 : Int) % 80 = (n : Int) := by omega
  have hn80 : n < 80 := by omega
  have EN := Lib.hid en
  have HF := Lib.hid hf
  clear h1 hr hd hf hn en
  go_enter Try.func6, Try.ntmps6
  go_wp2_with fail
  refine (H1.out _).mono ?_
  rintro e w1 ⟨rfl, rfl⟩
  go_wp2_with fail
  refine H2.out.mono ?_
  rintro e w1 ⟨rfl, hb, hs, hdi⟩
  have HB1 := Lib.hid hb
  have HS1 := Lib.hid hs
  have HDI := Lib.hid hdi
  clear hb hs hdi H1 H2
  generalize hp : w.heap.size = p at *
  go_wp2_with fail
  refine (cal_any p 3 w1 HDI.out (by decide)).mono ?_
  rintro e w2 ⟨c, rfl, hD, hdg, hck, -⟩
  have hD2 := hdg.dice
  have hps : p < w2.heap.size := by have := hdg.size; have := HS1.out; omega
  have hcal := hck.now hD2
  have HB2 := Lib.hid (HB1.out.trans (hdg.below (Nat.le_refl _) (by have := HS1.out; omega)))
  have HD := Lib.hid hD
  have HCK := Lib.hid hck
  have HD2 := Lib.hid hD2
  have h0 := drawn_chk hD
  have HROOM := Lib.hid (show c.room.length = 2 by obtain ⟨x, y, e, _⟩ := hD.room; rw [e]; rfl)
  obtain ⟨wa, wc, ta, tc, ra, rc, e1, e2, e3⟩ := hcal.forms
  have hv : c.val = .agg #[.slice wa c.wins.length wc, .slice ta c.team.length tc, .slice ra c.room.length rc] := by unfold Cal.val; rw [e1, e2, e3]
  have HIN := Lib.hid (fun (W : World) (hk : Dg p (w2.alloc (.cells #[.slice wa c.wins.length wc, .slice ta c.team.length tc, .slice ra c.room.length rc] 25)) W) => kept_in (c := c) 25 hck hps hD2 (by rw [e1, e2, e3]; exact hk))
  have HCE := Lib.hid (fun (W B) (hL : CalIn W W B c) => show W.cell? ⟨B, 0, none⟩ = some (.slice wa c.wins.length wc) ∧ W.cell? ⟨B, 1, none⟩ = some (.slice ta c.team.length tc) ∧ W.cell? ⟨B, 2, none⟩ = some (.slice ra c.room.length rc) from ⟨by rw [← e1]; exact hL.d0, by rw [← e2]; exact hL.d1, by rw [← e3]; exact hL.d2⟩)
  have HV := Lib.hid hv
  have HE1 := Lib.hid e1
  have H0 := Lib.hid h0
  clear hD hdg hck hD2 hcal h0 e1 e2 e3 HB1 HDI HS1
  rw [hv]
  clear hv
  have hpn : p ≠ w2.heap.size := by omega
  go_wp2_with fail
  have hdw : DiceAt (w2.alloc (.cells #[.slice wa c.wins.length wc, .slice ta c.team.length tc, .slice ra c.room.length rc] 25)) p := (((Dg.refl HD2.out).alloc _)).dice
  have hb3 : Below p w2 (w2.alloc (.cells #[.slice wa c.wins.length wc, .slice ta c.team.length tc, .slice ra c.room.length rc] 25)) := (Below.refl _ _).alloc (by omega) _
  refine (next_any p 2 _ hdw (by decide) (by decide)).mono ?_
  rintro e w4 ⟨⟨t, ht, rfl⟩, hk⟩
  have HI4 := Lib.hid (HIN.out w4 hk.dg)
  have HB4 := Lib.hid ((HB2.out.trans hb3).trans (hk.dg.below (Nat.le_refl _) (by simp; omega)))
  have HT := Lib.hid (show 0 ≤ (t : Int) ∧ (t : Int) < (c.room.length : Int) by have := HROOM.out; omega)
  have hdd := HCE.out w4 _ HI4.out
  clear hdw hb3 hk ht HIN HD2 HCK HB2 hpn
  go_wp2_with fail
  rw [EN.out]
  have hnx := next_ok c t n w4 HI4.out.cal H0.out HT.out
  have hsp := next_spec HD.out (t : Int) (n : Int) (by omega)
  obtain ⟨z, hz⟩ : ∃ z, z = firstD (n : Int) (teamB c t) 0 c.wins := ⟨_, rfl⟩
  rw [← hz] at hnx hsp
  rw [HV.out] at hnx
  clear hz
  obtain ⟨zd, zb⟩ := z
  simp only at hnx hsp
  have HSP := Lib.hid hsp
  have HMAY := Lib.hid (fun (W : World) (k : Int) (hW : CalIn w4 W w2.heap.size c) => show Calls Try.prog 19 #[.agg #[.slice wa c.wins.length wc, .slice ta c.team.length tc, .slice ra c.room.length rc], .int .i64 t, .int .i64 k] W fun e w' => e = .returned (.tuple #[.bool (mayF c t k), .int .i64 0]) ∧ Below W.heap.size W w' from by
    have h := may_ok c t k W hW.cal H0.out HT.out
    rw [HV.out] at h
    exact h)
  have HAT := Lib.hid (fun (W : World) (k : Int) (hW : CalIn w4 W w2.heap.size c) => show Calls Try.prog 17 #[.agg #[.slice wa c.wins.length wc, .slice ta c.team.length tc, .slice ra c.room.length rc], .int .i64 k] W fun e w' => e = .returned (.tuple #[.int .i64 (max (atF c k) 0), .bool (decide (0 ≤ atF c k)), .int .i64 0]) ∧ Below W.heap.size W w' from by
    have h := at_ok c k W hW.cal H0.out
    rw [HV.out] at h
    exact h)
  have HCE2 := Lib.hid (fun (W : World) (hL : CalIn w4 W w2.heap.size c) => show W.cell? ⟨w2.heap.size, 0, none⟩ = some (.slice wa c.wins.length wc) ∧ W.cell? ⟨w2.heap.size, 1, none⟩ = some (.slice ta c.team.length tc) ∧ W.cell? ⟨w2.heap.size, 2, none⟩ = some (.slice ra c.room.length rc) from HCE.out W _ ⟨Below.refl _ _, hL.hB, hL.d0, hL.d1, hL.d2, hL.cal⟩)
  have HBS := Lib.hid (show p ≤ w4.heap.size by have := HB4.out.size; omega)
  have HFEW := Lib.hid HD.out.few
  clear hsp hdd HCE H0 HT HD HROOM EN
  refine hnx.mono ?_
  clear hnx
  rintro e w5 ⟨rfl, hb⟩
  have HI5 := Lib.hid (HI4.out.later hb)
  clear hb HI4 HV
  generalize w2.heap.size = B at *
  generalize hwn : c.wins.length = wn at *
  have HWN := Lib.hid hwn
  clear hwn
  go_wp2_with fail
  go_loopg [12] (260 - n) (fun gg s12 wr => ∃ kk : Nat, n ≤ kk ∧ kk ≤ 260 ∧ 260 - kk ≤ gg ∧ s12 = .int .i64 kk ∧ Aside (CalIn w4 wr B c) ∧ Aside (zb = true → (kk : Int) ≤ zd))
  case atStart => exact ⟨n, Nat.le_refl _, by omega, Nat.le_refl _, rfl, HI5.out, fun h => (HSP.out.1 h).1⟩
  case round =>
    obtain ⟨kk, hnk, hkk, hg, rfl, L, A⟩ := hrel
    by_cases hlt : kk < 260
    · have hltz : (kk : Int) < 260 := by omega
      have hd := HCE2.out wr L.out
      have hm := HMAY.out wr kk L.out
      have HM := Lib.hid hm
      clear hm
      go_wp2_with fail
      refine HM.out.mono ?_
      rintro e w6 ⟨rfl, hb⟩
      have L6 := Lib.hid (L.out.later hb)
      have hd := HCE2.out w6 L6.out
      have ha := HAT.out w6 kk L6.out
      have HA := Lib.hid ha
      clear hb ha HM
      go_wp2_with fail
      refine HA.out.mono ?_
      rintro e w7 ⟨rfl, hb⟩
      have L7 := Lib.hid (L6.out.later hb)
      have hd := HCE2.out w7 L7.out
      clear hb HA L6
      rcases at_spec c t kk with ⟨ea, em⟩ | ⟨m, hm, ea, ef, et, em⟩
      · rw [ea, em, show max (-1 : Int) 0 = 0 from rfl, show decide ((0 : Int) ≤ -1) = false from rfl]
        have hw0 : (0 : Int) < (wn : Int) := by have := HFEW.out; omega
        have hw1 : ¬ (wn : Int) ≤ 0 := by omega
        have EM := Lib.hid em
        clear ea em
        cases zb with
        | false =>
          go_wp2_with fail
          go_roundg (260 - (kk + 1))
          case measure => omega
          case rel => exact ⟨kk + 1, by omega, by omega, by omega, by go_num, L7.out, fun h => by cases h⟩
        | true =>
          have hne : ¬ (kk : Int) = zd := fun e => by
            have := (HSP.out.1 (by first | rfl | trivial)).2.2.1
            rw [← e, EM.out] at this
            cases this
          have HNE := Lib.hid hne
          have hbe : ((kk : Int) == zd) = false := by simpa using hne
          go_wp2_with fail
          go_roundg (260 - (kk + 1))
          case measure => omega
          case rel => exact ⟨kk + 1, by omega, by omega, by omega, by go_num, L7.out, fun _ => by have h1 := A.out (by first | rfl | trivial); have h2 := HNE.out; omega⟩
      · have hmn : (m : Int) < (wn : Int) := by have := HWN.out; omega
        have hm0 : (0 : Int) ≤ (m : Int) := by omega
        have hm1 : ¬ (m : Int) < 0 := by omega
        have hm2 : ¬ (wn : Int) ≤ (m : Int) := by omega
        have hx1 : ¬ (kk : Int) < c.wins[m].frm := by omega
        have hx2 : ¬ c.wins[m].til ≤ (kk : Int) := by omega
        rw [ea, show max (m : Int) 0 = (m : Int) from by omega, show decide ((0 : Int) ≤ (m : Int)) = true from decide_eq_true hm0]
        obtain ⟨b, off, cap2, hs, hbw, r0, r1, r2⟩ := L7.out.cal.wins.row hm
        rw [HE1.out] at hs
        simp only [Value.slice.injEq] at hs
        obtain ⟨rfl, -, rfl⟩ := hs
        have hin := L7.out.cal.wins.teams c.wins[m] (List.getElem_mem hm)
        have HT2 := Lib.hid (has_any (t : Int) c.wins[m].tv c.wins[m].ts w7 hin)
        have hfo := hin.form
        have EM := Lib.hid em
        clear ea ef et hin
        generalize c.wins[m] = y at *
        obtain ⟨yf, yt, yv, ys⟩ := y
        simp only at *
        obtain ⟨ya, yc, rfl⟩ := hfo
        rw [em]
        clear em
        generalize (ys.any fun y => decide ((t : Int) = y)) = q at *
        cases q with
        | false =>
          cases zb with
          | false =>
            go_wp2_with fail
            go_roundg (260 - (kk + 1))
            case measure => omega
            case rel => exact ⟨kk + 1, by omega, by omega, by omega, by go_num, L7.out, fun h => by cases h⟩
          | true =>
            have hne : ¬ (kk : Int) = zd := fun e => by
              have := (HSP.out.1 (by first | rfl | trivial)).2.2.1
              rw [← e, EM.out] at this
              cases this
            have HNE := Lib.hid hne
            have hbe : ((kk : Int) == zd) = false := by simpa using hne
            go_wp2_with fail
            go_roundg (260 - (kk + 1))
            case measure => omega
            case rel => exact ⟨kk + 1, by omega, by omega, by omega, by go_num, L7.out, fun _ => by have h1 := A.out (by first | rfl | trivial); have h2 := HNE.out; omega⟩
        | true =>
          cases zb with
          | false =>
            exfalso
            have h1 := HSP.out.2 (by first | rfl | trivial) kk (by omega)
            rw [EM.out] at h1
            cases h1
          | true =>
            have hkz : (kk : Int) = zd := by
              have h1 := A.out (by first | rfl | trivial)
              by_cases e : (kk : Int) = zd
              · exact e
              · exfalso
                have h2 := (HSP.out.1 (by first | rfl | trivial)).2.2.2 kk (by omega) (by omega)
                rw [EM.out] at h2
                cases h2
            subst hkz
            go_wp2_with fail
            refine HT2.out.mono ?_
            rintro e w8 ⟨rfl, rfl⟩
            go_wp2_with fail
            refine (awake_any _).mono ?_
            rintro e w9 ⟨rfl, hb⟩
            have L9 := Lib.hid (L7.out.later hb)
            clear hb
            go_wp2_with fail
            go_ret
            exact ⟨rfl, (HB4.out.trans (L9.out.below.mono HBS.out)).mono (by omega)⟩
    · have hltz : ¬ (kk : Int) < 260 := by omega
      have hzb : zb = false := by
        cases zb with
        | false => rfl
        | true =>
          exfalso
          have h1 := A.out (by first | rfl | trivial)
          have h2 := (HSP.out.1 (by first | rfl | trivial)).2.1
          omega
      subst hzb
      go_wp2_with fail
      refine (awake_any _).mono ?_
      rintro e w9 ⟨rfl, hb⟩
      have L9 := Lib.hid (L.out.later hb)
      clear hb
      go_wp2_with fail
      go_ret
      exact ⟨rfl, (HB4.out.trans (L9.out.below.mono HBS.out)).mono (by omega)⟩
end Go.Proofs.Ytpbahffkhpfakaa


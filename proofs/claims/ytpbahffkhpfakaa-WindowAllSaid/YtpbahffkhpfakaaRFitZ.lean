import Derived.Test.YtpbahffkhpfakaaRAtZ
namespace Go.Proofs.Ytpbahffkhpfakaa
open Go.RowKit
set_option linter.unusedSimpArgs false
set_option linter.unusedVariables false

theorem zip_at {ts ds : List Int} {k : Nat} (h1 : k < ts.length) (h2 : k < ds.length) : (ts.zip ds)[k]'(by rw [List.length_zip]; omega) = (ts[k], ds[k]) := by simp

set_option maxRecDepth 100000 in
set_option maxHeartbeats 8000000 in
theorem rfit_any (c : Cal) (v1 v2 : Value) (ts ds : List Int) (w : World) (h : CalAt w c) (h1 : IntsAt w v1 ts) (h2 : IntsAt w v2 ds) :
    Calls Try.prog 57 #[c.val, v1, v2] w fun e w' => e = .returned (.int .i64 (loadE c ts ds [])) ∧ Below w.heap.size w w' := by
  have HCK := Lib.hid (fun W (hW : CalAt W c) => rcheck_any c c.team.length W hW)
  have HMAY := Lib.hid (fun (t d : Int) W (hW : CalAt W c) => rmay_any c t d W hW)
  obtain ⟨wa, wc, ta, tc, ra, rc, hS⟩ := h.shape
  have HS := Lib.hid hS
  have H0 := Lib.hid (hS.box h)
  rw [hS.val] at HCK HMAY ⊢
  obtain ⟨a1, m1, rfl⟩ := h1.form
  obtain ⟨a2, m2, rfl⟩ := h2.form
  have H1 := Lib.hid h1
  have H2 := Lib.hid h2
  have hl1 := h1.1
  have hl2 := h2.1
  have hlr := h.room.1
  clear h hS h1 h2
  have hd := HS.out.cells H0.out
  obtain ⟨q, hq⟩ : ∃ q, q = loadE c ts ds [] := ⟨_, rfl⟩
  rw [← hq]
  unfold loadE at hq
  rw [List.append_nil] at hq
  obtain ⟨z, hz⟩ : ∃ z, z = checkF c c.team.length := ⟨_, rfl⟩
  rw [← hz] at hq HCK
  have HQ := Lib.hid hq
  have HZ := Lib.hid hz
  clear hq hz
  go_enter Try.func57, Try.ntmps57
  go_wp2_with fail
  have HB0 := Lib.hid H0.out.below
  generalize w.alloc (.cells #[.slice wa c.wins.length wc, .slice ta c.team.length tc, .slice ra c.room.length rc] 25) = W0 at *
  refine (HCK.out _ H0.out.cal).mono ?_
  rintro e w1 ⟨rfl, hb⟩
  have L := Lib.hid (H0.out.later hb)
  clear hb hd HCK
  have hd := HS.out.cells L.out
  by_cases hz : z = 0
  · have HQ1 := Lib.hid (HQ.out.trans (if_neg (by rw [hz]; simp)))
    have HZ0 := Lib.hid (show checkF c c.team.length = 0 by rw [← HZ.out]; exact hz)
    subst hz
    clear HQ HZ
    by_cases hlen : ts.length = ds.length
    · have HQ2 := Lib.hid (HQ1.out.trans (if_neg (by rw [hlen]; simp)))
      have hbe : ((ts.length : Int) != (ds.length : Int)) = false := by simp [hlen]
      have HLEN := Lib.hid hlen
      clear hlen HQ1
      by_cases h24 : 24 < ts.length
      · have hq := HQ2.out.trans (if_pos h24)
        subst hq
        have hz24 : (24 : Int) < (ts.length : Int) := by omega
        clear HQ2
        go_wp2_with fail
        go_ret
        exact ⟨rfl, L.out.below⟩
      · have HQ3 := Lib.hid (HQ2.out.trans (if_neg h24))
        have hz24 : ¬ (24 : Int) < (ts.length : Int) := by omega
        clear HQ2
        go_wp2_with fail
        clear hbe
        go_loopg [30] ts.length (fun gg s30 wr => ∃ kk : Nat, kk ≤ ts.length ∧ ts.length - kk ≤ gg ∧ s30 = .int .i64 kk ∧ wr = w1 ∧ Aside (∀ j (hj : j < ts.length), j < kk → inB ts[j] 0 ((c.room.length : Int) - 1) = true))
        case atStart => exact ⟨0, Nat.zero_le _, by omega, rfl, rfl, fun j hj h0 => absurd h0 (Nat.not_lt_zero _)⟩
        case round =>
          obtain ⟨kk, hkk, hg, rfl, rfl, A⟩ := hrel
          by_cases hlt : kk < ts.length
          · have hltz : (kk : Int) < (ts.length : Int) := by omega
            obtain ⟨b3, o3, rfl, _, hc⟩ := (H1.out.below L.out.below).cellAt hlt
            have HNO := Lib.hid (fun (h : inB ts[kk] 0 ((c.room.length : Int) - 1) = false) => show q = 2 by
              rw [HQ3.out, if_pos]
              unfold rangeB
              exact all_no hlt h)
            have HYES := Lib.hid (fun (h : inB ts[kk] 0 ((c.room.length : Int) - 1) = true) => show ∀ j (hj : j < ts.length), j < kk + 1 → inB ts[j] 0 ((c.room.length : Int) - 1) = true from fun j hj hjk => by
              by_cases e : j = kk
              · subst e; exact h
              · exact A.out j hj (by omega))
            generalize ts[kk] = y at hc HNO HYES
            by_cases hy1 : y < 0
            · have hq := HNO.out (by unfold inB; simp; omega)
              subst hq
              clear HNO HYES
              go_wp2_with fail
              go_ret
              exact ⟨rfl, L.out.below⟩
            · by_cases hy2 : (c.room.length : Int) ≤ y
              · have hq := HNO.out (by unfold inB; simp; omega)
                subst hq
                clear HNO HYES
                go_wp2_with fail
                go_ret
                exact ⟨rfl, L.out.below⟩
              · go_wp2_with fail
                go_roundg (ts.length - (kk + 1))
                case measure => omega
                case rel => exact ⟨kk + 1, by omega, by omega, by go_num, rfl, HYES.out (by unfold inB; simp; omega)⟩
          · have hltz : ¬ (kk : Int) < (ts.length : Int) := by omega
            have HQ4 := Lib.hid (HQ3.out.trans (if_neg (by unfold rangeB; rw [all_yes fun j hj => A.out j hj (by omega)]; simp)))
            have hkn : kk = ts.length := by omega
            clear A HQ3
            subst hkn
            go_wp2_with fail
            clear hd
            go_loopg [46] ts.length (fun gg s46 wx => ∃ kk : Nat, kk ≤ ts.length ∧ ts.length - kk ≤ gg ∧ s46 = .int .i64 kk ∧ Aside (Box w wx w.heap.size c) ∧ Aside (∀ j (hj : j < ts.length) (hj2 : j < ds.length), j < kk → mayF c ts[j] ds[j] = true))
            case atStart => exact ⟨0, Nat.zero_le _, by omega, rfl, L.out, fun j hj _ h0 => absurd h0 (Nat.not_lt_zero _)⟩
            case round =>
              obtain ⟨kk, hkk, hg, rfl, L, A⟩ := hrel
              have hd := HS.out.cells L.out
              by_cases hlt : kk < ts.length
              · have hltz : (kk : Int) < (ts.length : Int) := by omega
                have hk2 : kk < ds.length := by have := HLEN.out; omega
                have hltz2 : (kk : Int) < (ds.length : Int) := by omega
                obtain ⟨b3, o3, rfl, _, hc⟩ := (H1.out.below L.out.below).cellAt hlt
                obtain ⟨b4, o4, rfl, _, hc2⟩ := (H2.out.below L.out.below).cellAt hk2
                have HNO := Lib.hid (fun (h : mayF c ts[kk] ds[kk] = false) => show q = 47 by
                  rw [HQ4.out, if_pos]
                  unfold mayB
                  exact all_no (k := kk) (by rw [List.length_zip]; omega) (by rw [zip_at hlt hk2]; exact h))
                have HYES := Lib.hid (fun (h : mayF c ts[kk] ds[kk] = true) => show ∀ j (hj : j < ts.length) (hj2 : j < ds.length), j < kk + 1 → mayF c ts[j] ds[j] = true from fun j hj hj2 hjk => by
                  by_cases e : j = kk
                  · subst e; exact h
                  · exact A.out j hj hj2 (by omega))
                have hmy := HMAY.out ts[kk] ds[kk] wr.drew ((L.out.later (Below.refl _ _).drew).cal)
                generalize mayF c ts[kk] ds[kk] = mb at HNO HYES hmy
                generalize ts[kk] = y at hc hmy
                generalize ds[kk] = y2 at hc2 hmy
                have HM := Lib.hid hmy
                clear hmy
                go_wp2_with fail
                go_still_tail 6, (by kernel_rfl)
                change wpList _ _ _ _ _ wr.drew
                go_wp2_with fail
                refine HM.out.mono ?_
                rintro e w5 ⟨rfl, hb⟩
                have L5 := Lib.hid ((L.out.later (Below.refl _ _).drew).later hb)
                clear hb HM
                cases mb with
                | false =>
                  have hq := HNO.out rfl
                  subst hq
                  clear HNO HYES
                  go_wp2_with fail
                  go_ret
                  exact ⟨rfl, L5.out.below⟩
                | true =>
                  have A2 := Lib.hid (HYES.out rfl)
                  clear HNO HYES
                  go_wp2_with fail
                  go_roundg (ts.length - (kk + 1))
                  case measure => omega
                  case rel => exact ⟨kk + 1, by omega, by omega, by go_num, L5.out, A2.out⟩
              · have hltz : ¬ (kk : Int) < (ts.length : Int) := by omega
                have hq : q = 0 := by
                  rw [HQ4.out, if_neg]
                  unfold mayB
                  rw [all_yes fun j hj => ?_]
                  · simp
                  · rw [List.length_zip] at hj
                    rw [zip_at (by omega) (by omega)]
                    exact A.out j (by omega) (by omega) (by omega)
                subst hq
                go_wp2_with fail
                go_ret
                exact ⟨rfl, L.out.below⟩
    · have hq := HQ1.out.trans (if_pos hlen)
      subst hq
      have hbe : ((ts.length : Int) != (ds.length : Int)) = true := by
        simp only [bne_iff_ne, ne_eq]
        omega
      clear HQ1
      go_wp2_with fail
      go_ret
      exact ⟨rfl, L.out.below⟩
  · have hq := HQ.out.trans (if_pos hz)
    have hbe : (z != 0) = true := by simpa using hz
    have HQ5 := Lib.hid hq
    clear HQ HZ hq
    go_wp2_with fail
    go_ret
    exact ⟨by rw [HQ5.out]; rfl, L.out.below⟩
end Go.Proofs.Ytpbahffkhpfakaa


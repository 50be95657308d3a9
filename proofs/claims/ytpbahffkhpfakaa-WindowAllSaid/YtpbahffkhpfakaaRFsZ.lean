import Derived.Test.YtpbahffkhpfakaaRLdZ
namespace Go.Proofs.Ytpbahffkhpfakaa
open Go.RowKit
set_option linter.unusedSimpArgs false
set_option linter.unusedVariables false

/-! ## The reference's Fits -/

theorem room_ok {c : Cal} {n : Int} (h : checkF c n = 0) : ∀ t (ht : t < c.room.length), 0 ≤ c.room[t] ∧ c.room[t] ≤ 24 := by
  intro t ht
  unfold checkF at h
  by_cases h1 : 32 < c.wins.length ∨ 8 < c.room.length
  · rw [if_pos h1] at h; cases h
  · rw [if_neg h1] at h
    cases h2 : (c.room.all fun n => inB n 0 24) with
    | false => rw [if_pos h2] at h; cases h
    | true =>
      rw [List.all_eq_true] at h2
      have := h2 _ (List.getElem_mem ht)
      unfold inB at this
      simpa using this
theorem loadN_out {c : Cal} {ts ds ask : List Int} (h : loadE c ts ds ask = 0) {i t : Nat} (hi : c.wins.length ≤ i) (ht : t < 8) : loadN c (ts.zip ds) (i * 8 + t) = 0 := by
  have hok := load_ok h
  have hr8 := (ok0_of (loadE_zero h)).room
  unfold loadN
  rw [List.filter_eq_nil_iff.2 ?_]
  · rfl
  · intro p hp
    obtain ⟨k, hk, rfl⟩ := List.getElem_of_mem hp
    rw [List.length_zip] at hk
    rw [zip_at (by omega) (by omega)]
    have h1 := hok.2.2.1 k (by omega)
    have h2 := hok.2.2.2 k (by omega) (by omega)
    rcases at_spec c ts[k] ds[k] with ⟨_, e⟩ | ⟨m, hm, ea, _⟩
    · rw [e] at h2; cases h2
    · simp only [decide_eq_true_eq]
      unfold slotOf
      rw [ea]
      simp only
      omega

set_option maxRecDepth 100000 in
set_option maxHeartbeats 8000000 in
theorem rfits_any (c : Cal) (v1 v2 : Value) (ts ds : List Int) (w : World) (h : CalAt w c) (h1 : IntsAt w v1 ts) (h2 : IntsAt w v2 ds) :
    Calls Try.prog 29 #[c.val, v1, v2] w fun e w' => e = .returned (.int .i64 (fitsE c ts ds)) ∧ Below w.heap.size w w' := by
  have HFT := Lib.hid (fun W (hW : Below w.heap.size w W) => rfit_any c v1 v2 ts ds W (h.below hW) (h1.below hW) (h2.below hW))
  have HLD := Lib.hid (fun W (hW : Below w.heap.size w W) (h0 : loadE c ts ds [] = 0) => rload_any c v1 v2 ts ds W (h.below hW) (h1.below hW) (h2.below hW) h0)
  obtain ⟨wa, wc, ta, tc, ra, rc, hS⟩ := h.shape
  have HS := Lib.hid hS
  have H0 := Lib.hid (hS.box h)
  rw [hS.val] at HFT HLD ⊢
  obtain ⟨a1, m1, rfl⟩ := h1.form
  obtain ⟨a2, m2, rfl⟩ := h2.form
  clear h hS h1 h2
  have hd := HS.out.cells H0.out
  obtain ⟨q, hq⟩ : ∃ q, q = fitsE c ts ds := ⟨_, rfl⟩
  rw [← hq]
  unfold fitsE at hq
  have HQ := Lib.hid hq
  clear hq
  go_enter Try.func29, Try.ntmps29
  go_wp2_with fail
  generalize w.alloc (.cells #[.slice wa c.wins.length wc, .slice ta c.team.length tc, .slice ra c.room.length rc] 25) = W0 at *
  refine (HFT.out _ H0.out.below).mono ?_
  rintro e w1 ⟨rfl, hb⟩
  have L := Lib.hid (H0.out.later hb)
  clear hb hd HFT
  have hd := HS.out.cells L.out
  by_cases hz : loadE c ts ds [] = 0
  · have hld := HLD.out _ L.out.below hz
    have HQ1 := Lib.hid (HQ.out.trans (if_neg (by rw [hz]; simp)))
    have HZ := Lib.hid hz
    rw [hz]
    clear hz HLD HQ
    go_wp2_with fail
    refine hld.mono ?_
    rintro e w2 ⟨v, s, gs, F, rfl, hs, hO, hgl, hF, hb⟩
    have L2 := Lib.hid (L.out.later hb)
    have O := Lib.hid hO
    have HF := Lib.hid hF
    have HG := Lib.hid hgl
    have hw32 := (ok0_of (loadE_zero HZ.out)).wins
    have hr8 := (ok0_of (loadE_zero HZ.out)).room
    obtain ⟨av, cv, rfl⟩ : ∃ a m, v = .slice a gs.length m := by
      rcases hO.own.2 with ⟨e, h0⟩ | ⟨g, cap, cur, e, _⟩
      · exact ⟨none, 0, by rw [e, h0]⟩
      · exact ⟨_, _, e⟩
    have HFULL := Lib.hid (fun (i t : Nat) (hi : i < c.wins.length) (ht : t < c.room.length) (h : c.room[t] < F i t) => show q = 48 by
      rw [HQ1.out, if_pos]
      exact fullB_yes (i := i) (t := t) (by omega) ht (by rw [← HF.out i t ht]; exact h))
    have HNONE := Lib.hid (fun (h : ∀ i, i < c.wins.length → ∀ t (ht : t < c.room.length), F i t ≤ c.room[t]) => show q = 0 by
      rw [HQ1.out, if_neg]
      rw [fullB_no]
      · simp
      · intro i hi t ht
        by_cases hiw : i < c.wins.length
        · rw [← HF.out i t ht]
          exact h i hiw t ht
        · rw [loadN_out HZ.out (by omega) (by omega)]
          exact (room_ok (loadE_zero HZ.out) t ht).1)
    clear hb hld hO hF hgl hs hd
    have hd := HS.out.cells L2.out
    have hgl2 : gs.length ≤ 32 := by have := HG.out; omega
    go_wp2_with fail
    go_loopg [24] gs.length (fun gg s24 wr => ∃ kk : Nat, kk ≤ gs.length ∧ gs.length - kk ≤ gg ∧ s24 = .int .i64 kk ∧ wr = w2 ∧ Aside (∀ i, i < kk → ∀ t (ht : t < c.room.length), F i t ≤ c.room[t]))
    case atStart => exact ⟨0, Nat.zero_le _, by omega, rfl, rfl, fun i h0 => absurd h0 (Nat.not_lt_zero _)⟩
    case round =>
      obtain ⟨kk, hkk, hg, rfl, rfl, A⟩ := hrel
      by_cases hlt : kk < gs.length
      · have hltz : (kk : Int) < (gs.length : Int) := by omega
        obtain ⟨bo, capo, ho, hbo1, hbo2, hbo3, hco⟩ := O.out.row hlt
        simp only [Value.slice.injEq] at ho
        obtain ⟨rfl, -, rfl⟩ := ho
        have hrow := O.out.rows kk hlt
        unfold rowV at hco
        have HCELL := Lib.hid (fun (t : Nat) (ht : t < c.room.length) => show wr.cell? ⟨gs[kk], t, none⟩ = some (.int .i64 (F kk t)) from (heap_cell hrow t).trans (by rw [List.getElem?_toArray]; exact nums_get _ _ _ ht))
        clear hrow
        generalize gs[kk] = G at *
        go_wp2_with fail
        go_loopg [30] c.room.length (fun gg s30 wi => ∃ t : Nat, t ≤ c.room.length ∧ c.room.length - t ≤ gg ∧ s30 = .int .i64 t ∧ wi = wr ∧ Aside (∀ j (hj : j < c.room.length), j < t → F kk j ≤ c.room[j]))
        case atStart => exact ⟨0, Nat.zero_le _, by omega, rfl, rfl, fun j hj h0 => absurd h0 (Nat.not_lt_zero _)⟩
        case round =>
          obtain ⟨t, htt, hg2, rfl, rfl, C⟩ := hrel
          by_cases hlt2 : t < c.room.length
          · have hltz2 : (t : Int) < (c.room.length : Int) := by omega
            have hc := HCELL.out t hlt2
            obtain ⟨b3, o3, rfl, hc3⟩ := HS.out.room L2.out.cal hlt2
            by_cases hbig : c.room[t] < F kk t
            · have hq := HFULL.out kk t (by have := HG.out; omega) hlt2 hbig
              subst hq
              generalize c.room[t] = x at *
              generalize F kk t = y at *
              clear HFULL HNONE
              go_wp2_with fail
              go_ret
              exact ⟨rfl, L2.out.below⟩
            · have HC2 := Lib.hid (show ∀ j (hj : j < c.room.length), j < t + 1 → F kk j ≤ c.room[j] from fun j hj hjk => by
                by_cases e : j = t
                · subst e; omega
                · exact C.out j hj (by omega))
              generalize c.room[t] = x at hc3 hbig
              generalize F kk t = y at hc hbig
              go_wp2_with fail
              go_roundg (c.room.length - (t + 1))
              case measure => omega
              case rel => exact ⟨t + 1, by omega, by omega, by go_num, rfl, HC2.out⟩
          · have hltz2 : ¬ (t : Int) < (c.room.length : Int) := by omega
            have A2 := Lib.hid (show ∀ i, i < kk + 1 → ∀ t (ht : t < c.room.length), F i t ≤ c.room[t] from fun i hi t' ht' => by
              by_cases e : i = kk
              · subst e; exact C.out t' ht' (by omega)
              · exact A.out i (by omega) t' ht')
            go_wp2_with fail
            go_roundg (gs.length - (kk + 1))
            case measure => omega
            case rel => exact ⟨kk + 1, by omega, by omega, by go_num, rfl, A2.out⟩
      · have hltz : ¬ (kk : Int) < (gs.length : Int) := by omega
        have hq := HNONE.out (fun i hi t ht => A.out i (by have := HG.out; omega) t ht)
        subst hq
        clear HFULL HNONE
        go_wp2_with fail
        go_ret
        exact ⟨rfl, L2.out.below⟩
  · have HQ5 := Lib.hid (HQ.out.trans (if_pos hz))
    generalize loadE c ts ds [] = z at *
    have hbe : (z != 0) = true := by simpa using hz
    clear HQ HLD
    go_wp2_with fail
    go_ret
    exact ⟨by rw [HQ5.out]; rfl, L.out.below⟩
end Go.Proofs.Ytpbahffkhpfakaa


import Derived.Test.YtpbahffkhpfakaaRFsZ
namespace Go.Proofs.Ytpbahffkhpfakaa
open Go.RowKit
set_option linter.unusedSimpArgs false
set_option linter.unusedVariables false

/-! ## The reference's Earliest -/

theorem chk_sorted {c : Cal} {n : Int} (h : checkF c n = 0) : (∀ x ∈ c.wins, x.frm < x.til) ∧ apartB c.wins = true := by
  unfold checkF at h
  by_cases h1 : 32 < c.wins.length ∨ 8 < c.room.length
  · rw [if_pos h1] at h; cases h
  · rw [if_neg h1] at h
    cases h2 : (c.room.all fun n => inB n 0 24) with
    | false => rw [if_pos h2] at h; cases h
    | true =>
      rw [if_neg (by rw [h2]; simp)] at h
      cases h3 : c.wins.all daysB with
      | false => rw [if_pos h3] at h; cases h
      | true =>
        rw [if_neg (by rw [h3]; simp)] at h
        by_cases h4 : apartB c.wins = false ∨ (c.wins.all fun x => ascB x.ts) = false
        · rw [if_pos h4] at h; cases h
        · refine ⟨fun x hx => ?_, ?_⟩
          · rw [List.all_eq_true] at h3
            have := h3 x hx
            unfold daysB at this
            simp at this
            omega
          · cases ha : apartB c.wins with
            | false => exact absurd (.inl ha) h4
            | true => rfl
/-- at a day of a window of sorted ones, that window is found -/
theorem may_in {c : Cal} {n : Int} (h : checkF c n = 0) (t d : Int) {i : Nat} (hi : i < c.wins.length) (h1 : c.wins[i].frm ≤ d) (h2 : d < c.wins[i].til) : mayF c t d = (c.wins[i].ts.any fun y => decide (t = y)) := by
  have hs := sorted (chk_sorted h).1 (chk_sorted h).2
  rcases at_spec c t d with ⟨e, _⟩ | ⟨m, hm, _, h3, h4, e⟩
  · exfalso
    unfold atF at e
    rcases firstI_cases (hasB d) c.wins with ⟨m, hm, e2, _, _⟩ | ⟨_, hno⟩
    · omega
    · have := hno i hi
      simp [hasB] at this
      omega
  · rw [e]
    by_cases e1 : m = i
    · subst e1; rfl
    · exfalso
      by_cases e2 : m < i
      · have := hs i m hi e2; omega
      · have := hs m i hm (by omega); omega
theorem loadE_ask {c : Cal} {ts ds : List Int} {t : Int} (ht : 0 ≤ t ∧ t < (c.room.length : Int)) : loadE c ts ds [t] = loadE c ts ds [] := by
  have : rangeB c (ts ++ [t]) = rangeB c (ts ++ []) := by
    unfold rangeB
    rw [List.all_append, List.all_append]
    congr 1
    have : inB t 0 ((c.room.length : Int) - 1) = true := by unfold inB; simp; omega
    simp [this]
  unfold loadE
  rw [this]
theorem earlE_in {c : Cal} {ts ds : List Int} {t : Int} (ht : 0 ≤ t ∧ t < (c.room.length : Int)) : earlE c ts ds t = fitsE c ts ds := by
  unfold earlE fitsE
  rw [loadE_ask ht]

set_option maxRecDepth 100000 in
set_option maxHeartbeats 4000000 in
theorem rearl_any (c : Cal) (v1 v2 : Value) (ts ds : List Int) (tm d : Int) (w : World) (h : CalAt w c) (h1 : IntsAt w v1 ts) (h2 : IntsAt w v2 ds) :
    Calls Try.prog 24 #[c.val, v1, v2, .int .i64 tm, .int .i64 d] w fun e w' => e = .returned (.tuple #[.int .i64 (earlD c ts ds tm d).1, .bool (earlD c ts ds tm d).2, .int .i64 (earlE c ts ds tm)]) ∧ Below w.heap.size w w' := by
  have HCK := Lib.hid (fun W (hW : CalAt W c) => rcheck_any c c.team.length W hW)
  have HFT := Lib.hid (fun W (hW : Below w.heap.size w W) => rfits_any c v1 v2 ts ds W (h.below hW) (h1.below hW) (h2.below hW))
  have HLD := Lib.hid (fun W (hW : Below w.heap.size w W) (h0 : loadE c ts ds [] = 0) => rload_any c v1 v2 ts ds W (h.below hW) (h1.below hW) (h2.below hW) h0)
  have HMAY := Lib.hid (fun (t d : Int) W (hW : CalAt W c) => rmay_any c t d W hW)
  obtain ⟨wa, wcp, ta, tc, ra, rc, hS⟩ := h.shape
  have HS := Lib.hid hS
  have H0 := Lib.hid (hS.box h)
  rw [hS.val] at HCK HFT HLD HMAY ⊢
  obtain ⟨a1, m1, rfl⟩ := h1.form
  obtain ⟨a2, m2, rfl⟩ := h2.form
  have hl1 := h1.1
  have hl2 := h2.1
  have hlr := h.room.1
  clear h hS h1 h2
  have hd := HS.out.cells H0.out
  obtain ⟨q, hq⟩ : ∃ q, q = earlE c ts ds tm := ⟨_, rfl⟩
  obtain ⟨z, hz⟩ : ∃ z, z = earlD c ts ds tm d := ⟨_, rfl⟩
  rw [← hz, ← hq]
  unfold earlD at hz
  rw [← hq] at hz
  have HQ := Lib.hid hq
  have HZ := Lib.hid hz
  clear hq hz
  have HNO := Lib.hid (fun (h : q ≠ 0) => show z = (0, false) from HZ.out.trans (if_pos h))
  obtain ⟨ck, hck⟩ : ∃ z, z = checkF c c.team.length := ⟨_, rfl⟩
  rw [← hck] at HCK
  have HC0 := Lib.hid hck
  clear hck
  go_enter Try.func24, Try.ntmps24
  go_wp2_with fail
  generalize w.alloc (.cells #[.slice wa c.wins.length wcp, .slice ta c.team.length tc, .slice ra c.room.length rc] 25) = W0 at *
  refine (HCK.out _ H0.out.cal).mono ?_
  rintro e w1 ⟨rfl, hb⟩
  have L := Lib.hid (H0.out.later hb)
  clear hb hd HCK
  have hd := HS.out.cells L.out
  by_cases hz : ck = 0
  · have HCK0 := Lib.hid (show checkF c c.team.length = 0 by rw [← HC0.out]; exact hz)
    subst hz
    clear HC0
    by_cases hlen : ts.length = ds.length
    · have hbe : ((ts.length : Int) != (ds.length : Int)) = false := by simp [hlen]
      have HLEN := Lib.hid hlen
      clear hlen
      by_cases h24 : 24 < ts.length
      · have hq : q = 3 := by
          rw [HQ.out]
          unfold earlE
          have : loadE c ts ds [tm] = 3 := by
            unfold loadE
            rw [if_neg (by rw [HCK0.out]; simp), if_neg (by rw [HLEN.out]; simp), if_pos h24]
          rw [this, if_pos (by decide)]
        have hzz := HNO.out (by rw [hq]; decide)
        subst hq
        subst hzz
        have hz24 : (24 : Int) < (ts.length : Int) := by omega
        clear HQ HZ HNO
        go_wp2_with fail
        go_ret3
        exact ⟨rfl, L.out.below⟩
      · have hz24 : ¬ (24 : Int) < (ts.length : Int) := by omega
        by_cases ht : 0 ≤ tm ∧ tm < (c.room.length : Int)
        · have HT := Lib.hid ht
          have HQ1 := Lib.hid (HQ.out.trans (earlE_in ht))
          obtain ⟨t, rfl⟩ : ∃ t : Nat, tm = (t : Int) := ⟨tm.toNat, by omega⟩
          have htn : t < c.room.length := by omega
          have ht1 : ¬ (t : Int) < 0 := by omega
          have ht2 : ¬ (c.room.length : Int) ≤ (t : Int) := by omega
          have hft := HFT.out w1 L.out.below
          rw [← HQ1.out] at hft
          have HF1 := Lib.hid hft
          clear hft HFT HQ ht
          go_wp2_with fail
          refine HF1.out.mono ?_
          rintro e w2 ⟨rfl, hb⟩
          have L2 := Lib.hid (L.out.later hb)
          clear hb hd hbe HF1
          have hd := HS.out.cells L2.out
          by_cases hq0 : q = 0
          · have HL0 := Lib.hid (show loadE c ts ds [] = 0 by
              have h := HQ1.out
              rw [hq0] at h
              unfold fitsE at h
              by_cases h5 : loadE c ts ds [] = 0
              · exact h5
              · rw [if_pos h5] at h
                exact absurd h.symm h5)
            have hld := HLD.out w2 L2.out.below HL0.out
            have HZ1 := Lib.hid (show z = firstD d (suitB c (loadN c (ts.zip ds)) t) 0 c.wins by
              have h := HZ.out
              rw [if_neg (by rw [hq0]; simp)] at h
              have e1 : ((t : Int)).toNat = t := by simp
              rw [e1] at h
              exact h)
            subst hq0
            clear HZ HNO HQ1 HLD
            go_wp2_with fail
            refine hld.mono ?_
            rintro e w3 ⟨v, s, gs, F, rfl, hs, hO, hgl, hF, hb⟩
            have L3 := Lib.hid (L2.out.later hb)
            have O := Lib.hid hO
            have HF := Lib.hid hF
            have HG := Lib.hid hgl
            have HSS := Lib.hid hs
            have hw32 := (ok0_of HCK0.out).wins
            have hr8 := (ok0_of HCK0.out).room
            obtain ⟨av, cv, rfl⟩ : ∃ a m, v = .slice a gs.length m := by
              rcases hO.own.2 with ⟨e, h0⟩ | ⟨g, cap, cur, e, _⟩
              · exact ⟨none, 0, by rw [e, h0]⟩
              · exact ⟨_, _, e⟩
            clear hb hld hO hF hgl hs hd
            have hd := HS.out.cells L3.out
            go_wp2_with fail
            clear hd
            go_loopg [16, 17, 18, 58] c.wins.length (fun gg _ _ _ s58 wr => ∃ kk : Nat, kk ≤ c.wins.length ∧ c.wins.length - kk ≤ gg ∧ s58 = .int .i64 kk ∧ Aside (Below w3.heap.size w3 wr) ∧ Aside (∀ j (hj : j < c.wins.length), j < kk → ¬ (max d c.wins[j].frm < c.wins[j].til ∧ suitB c (loadN c (ts.zip ds)) t j = true)))
            case atStart => exact ⟨0, Nat.zero_le _, by omega, rfl, Below.refl _ _, fun j hj h0 => absurd h0 (Nat.not_lt_zero _)⟩
            case round =>
              obtain ⟨kk, hkk, hg, rfl, BW, A⟩ := hrel
              have L4 := Lib.hid (L3.out.later BW.out)
              by_cases hlt : kk < c.wins.length
              · have hltz : (kk : Int) < (c.wins.length : Int) := by omega
                obtain ⟨b, off, rfl, hb, c0, c1, c2, hin⟩ := HS.out.win L4.out.cal hlt
                obtain ⟨ya, yc, ey⟩ := hin.form
                rw [ey] at c2
                have hkg : kk < gs.length := by have := HG.out; omega
                have hkgz : (kk : Int) < (gs.length : Int) := by omega
                have htz : (t : Int) < (c.room.length : Int) := by omega
                have O4 := O.out.below BW.out
                obtain ⟨bo, capo, ho, hbo1, hbo2, hbo3, hco⟩ := O4.row hkg
                simp only [Value.slice.injEq] at ho
                obtain ⟨rfl, -, rfl⟩ := ho
                have hrow := O4.rows kk hkg
                have hx : wr.cell? ⟨gs[kk], t, none⟩ = some (.int .i64 (F kk t)) := (heap_cell hrow t).trans (by rw [List.getElem?_toArray]; exact nums_get _ _ _ htn)
                have hGl := (Array.getElem?_eq_some_iff.1 hrow).1
                obtain ⟨br, or, rfl, hrm⟩ := HS.out.room L4.out.cal htn
                have hbr : br < wr.heap.size := by
                  by_cases h : br < wr.heap.size
                  · exact h
                  · exfalso
                    have : wr.heap[br]? = none := Array.getElem?_eq_none (by omega)
                    simp [World.cell?, this] at hrm
                unfold rowV at hco
                have HSU := Lib.hid (show suitB c (loadN c (ts.zip ds)) t kk = ((c.wins[kk].ts.any fun y => decide ((t : Int) = y)) && decide (F kk t < c.room[t])) by
                  unfold suitB
                  rw [List.getElem?_eq_getElem hlt, List.getElem?_eq_getElem htn, HF.out kk t htn]
                  rfl)
                have HMI := Lib.hid (fun (h1 : max d c.wins[kk].frm < c.wins[kk].til) => show mayF c t (max d c.wins[kk].frm) = (c.wins[kk].ts.any fun y => decide ((t : Int) = y)) from may_in HCK0.out t _ hlt (by omega) h1)
                have HIT := Lib.hid (fun (h1 : max d c.wins[kk].frm < c.wins[kk].til) (h2 : (c.wins[kk].ts.any fun y => decide ((t : Int) = y)) = true) (h3 : F kk t < c.room[t]) => show z = (max d c.wins[kk].frm, true) from by
                  rw [HZ1.out]
                  exact firstD_hit hlt ⟨h1, by rw [HSU.out, h2, decide_eq_true h3]; rfl⟩ A.out)
                have NEXT := Lib.hid (fun (h : ¬ (max d c.wins[kk].frm < c.wins[kk].til ∧ (c.wins[kk].ts.any fun y => decide ((t : Int) = y)) = true ∧ F kk t < c.room[t])) => show ∀ j (hj : j < c.wins.length), j < kk + 1 → ¬ (max d c.wins[j].frm < c.wins[j].til ∧ suitB c (loadN c (ts.zip ds)) t j = true) from fun j hj hjk => by
                  by_cases e : j = kk
                  · subst e
                    rw [HSU.out]
                    intro h5
                    apply h
                    have h6 := h5.2
                    simp only [Bool.and_eq_true, decide_eq_true_eq] at h6
                    exact ⟨h5.1, h6.1, h6.2⟩
                  · exact A.out j hj (by omega))
                obtain ⟨dd, hdd⟩ : ∃ dd, dd = max d c.wins[kk].frm := ⟨_, rfl⟩
                rw [← hdd] at HMI HIT NEXT
                have HDD := Lib.hid hdd
                have LA := Lib.hid (L4.out.later (Below.alloc1 wr (.cells #[.int .i64 c.wins[kk].frm, .int .i64 c.wins[kk].til, .slice ya c.wins[kk].ts.length yc] 58)))
                have BWA := Lib.hid (BW.out.trans ((Below.alloc1 wr (.cells #[.int .i64 c.wins[kk].frm, .int .i64 c.wins[kk].til, .slice ya c.wins[kk].ts.length yc] 58)).mono BW.out.size))
                clear hdd hrow hin ey A HSU O4
                generalize (c.wins[kk].ts.any fun y => decide ((t : Int) = y)) = qa at *
                generalize c.wins[kk].ts.length = yn at *
                generalize c.wins[kk].frm = yf at *
                generalize c.wins[kk].til = yt at *
                generalize c.room[t] = rm at *
                generalize F kk t = x at *
                generalize gs[kk] = G at *
                go_upto_region 17 with fail
                have ab := Below.alloc1 wr (.cells #[.int .i64 yf, .int .i64 yt, .slice ya yn yc] 58)
                have n0 : (wr.alloc (.cells #[.int .i64 yf, .int .i64 yt, .slice ya yn yc] 58)).cell? ⟨wr.heap.size, 0, none⟩ = some (.int .i64 yf) := World.cell?_alloc_at _ _ _ _ rfl
                have n1 : (wr.alloc (.cells #[.int .i64 yf, .int .i64 yt, .slice ya yn yc] 58)).cell? ⟨wr.heap.size, 1, none⟩ = some (.int .i64 yt) := World.cell?_alloc_at _ _ _ _ rfl
                have n2 := (ab.cell (p := ⟨bo, kk, none⟩) hbo2).trans hco
                have n3 := (ab.cell (p := ⟨G, t, none⟩) hGl).trans hx
                have n4 := (ab.cell (p := ⟨br, or + t, none⟩) hbr).trans hrm
                have hsz : wr.heap.size < (wr.alloc (.cells #[.int .i64 yf, .int .i64 yt, .slice ya yn yc] 58)).heap.size := by simp
                clear ab hco hx hrm c0 c1 c2
                generalize hB17 : wr.heap.size = B17 at *
                generalize wr.alloc (.cells #[.int .i64 yf, .int .i64 yt, .slice ya yn yc] 58) = Wk at *
                have HSK := Lib.hid (fun (W : World) (hW : Below Wk.heap.size Wk W) => show W.cell? ⟨w.heap.size, 0, none⟩ = some (.slice (some ⟨b, off, none⟩) c.wins.length wcp) ∧ W.cell? ⟨w.heap.size, 1, none⟩ = some (.slice ta c.team.length tc) ∧ W.cell? ⟨w.heap.size, 2, none⟩ = some (.slice (some ⟨br, or, none⟩) c.room.length rc) ∧ W.cell? ⟨B17, 1, none⟩ = some (.int .i64 yt) ∧ W.cell? ⟨bo, kk, none⟩ = some (.slice (some ⟨G, 0, none⟩) c.room.length c.room.length) ∧ W.cell? ⟨G, t, none⟩ = some (.int .i64 x) ∧ W.cell? ⟨br, or + t, none⟩ = some (.int .i64 rm) from by
                  obtain ⟨k0, k1, k2⟩ := HS.out.cells (LA.out.later hW)
                  exact ⟨k0, k1, k2, (hW.cell (p := ⟨B17, 1, none⟩) hsz).trans n1, (hW.cell (p := ⟨bo, kk, none⟩) (by show bo < _; omega)).trans n2, (hW.cell (p := ⟨G, t, none⟩) (by show G < _; omega)).trans n3, (hW.cell (p := ⟨br, or + t, none⟩) (by show br < _; omega)).trans n4⟩)
                have hmy := HMAY.out t dd Wk.drew (LA.out.later (Below.refl _ _).drew).cal
                have HMY0 := Lib.hid hmy
                clear hmy n1 n2 n3 n4 hB17
                go_cut [18] from 63 to 67 (fun s18 wx => s18 = .int .i64 dd ∧ wx = Wk)
                case first =>
                  go_wp2_with fail
                  all_goals
                    go_meet
                    exact ⟨congrArg (Value.int .i64) (by have h := HDD.out; omega), rfl⟩
                case rest =>
                obtain ⟨rfl, rfl⟩ := hcut
                clear n0
                by_cases hA : dd < yt
                · have hqa := HMI.out hA
                  rw [hqa] at HMY0
                  clear hqa HMI
                  have hA2 : decide (dd < yt) = true := decide_eq_true hA
                  cases qa with
                  | false =>
                    have HMY := HMY0
                    go_wp2_with fail
                    refine wp_region_held_drew (S := (fun w' => w'.cell? ⟨w.heap.size, 0, none⟩ = some (.slice (some ⟨b, off, none⟩) c.wins.length wcp) ∧ w'.cell? ⟨w.heap.size, 1, none⟩ = some (.slice ta c.team.length tc) ∧ w'.cell? ⟨w.heap.size, 2, none⟩ = some (.slice (some ⟨br, or, none⟩) c.room.length rc) ∧ w'.cell? ⟨B17, 1, none⟩ = some (.int .i64 yt) ∧ w'.cell? ⟨bo, kk, none⟩ = some (.slice (some ⟨G, 0, none⟩) c.room.length c.room.length) ∧ w'.cell? ⟨G, t, none⟩ = some (.int .i64 x) ∧ w'.cell? ⟨br, or + t, none⟩ = some (.int .i64 rm))) (by kernel_rfl) (HSK.out _ (Below.refl _ _).drew) ?_
                    intro hS
                    refine wpAnyH_take (i := 0) (v := ?_) rfl (by kernel_rfl) (by kernel_rfl) (by kernel_rfl) (fun _ _ _ h => h) (Or.inl ⟨by rfl, ?_⟩) hS ?_
                    rotate_left
                    · rintro w' ⟨s0, s1, s2, s3, s4, s5, s6⟩
                      go_simp
                      rfl
                    go_simp
                    refine wpAnyH_take (i := 1) (v := ?_) rfl (by kernel_rfl) (by kernel_rfl) (by kernel_rfl) (fun _ _ _ h => h) (Or.inl ⟨by rfl, ?_⟩) hS ?_
                    rotate_left
                    · rintro w' ⟨s0, s1, s2, s3, s4, s5, s6⟩
                      go_simp
                      rfl
                    go_simp
                    refine wpAnyH_take (i := 2) (v := ?_) rfl (by kernel_rfl) (by kernel_rfl) (by kernel_rfl) (fun _ _ _ h => h) (Or.inl ⟨by rfl, ?_⟩) hS ?_
                    rotate_left
                    · rintro w' ⟨s0, s1, s2, s3, s4, s5, s6⟩
                      go_simp
                      rfl
                    go_simp
                    refine wpAnyH_take (i := 3) (v := ?_) rfl (by kernel_rfl) (by kernel_rfl) (by kernel_rfl) (fun _ _ _ h => h) (Or.inl ⟨by rfl, ?_⟩) hS ?_
                    rotate_left
                    · rintro w' ⟨s0, s1, s2, s3, s4, s5, s6⟩
                      go_simp
                      rfl
                    go_simp
                    refine wpAnyH_take (i := 4) (v := ?_) rfl (by kernel_rfl) (by kernel_rfl) (by kernel_rfl) (fun _ _ _ h => h) (Or.inl ⟨by rfl, ?_⟩) hS ?_
                    rotate_left
                    · rintro w' ⟨s0, s1, s2, s3, s4, s5, s6⟩
                      go_simp
                      rfl
                    go_simp
                    refine wpAnyH_take (i := 5) (v := ?_) rfl (by kernel_rfl) (by kernel_rfl) (by kernel_rfl) (fun _ _ _ h => h) (Or.inl ⟨by rfl, ?_⟩) hS ?_
                    rotate_left
                    · rintro w' ⟨s0, s1, s2, s3, s4, s5, s6⟩
                      go_simp
                      rfl
                    go_simp
                    refine wpAnyH_take (i := 6) (v := ?_) rfl (by kernel_rfl) (by kernel_rfl) (by kernel_rfl) (fun _ _ _ h => h) (Or.inl ⟨by rfl, ?_⟩) hS ?_
                    rotate_left
                    · rintro w' ⟨s0, s1, s2, s3, s4, s5, s6⟩
                      go_simp
                      rfl
                    go_simp
                    refine wpAnyH_take (i := 7) (v := ?_) rfl (by kernel_rfl) (by kernel_rfl) (by kernel_rfl) (fun _ _ _ h => h) (Or.inl ⟨by rfl, ?_⟩) hS ?_
                    rotate_left
                    · rintro w' ⟨s0, s1, s2, s3, s4, s5, s6⟩
                      go_simp
                      rfl
                    go_simp
                    refine wpAnyH_take (i := 8) (v := ?_) rfl (by kernel_rfl) (by kernel_rfl) (by kernel_rfl) (fun _ _ _ h => h) (Or.inl ⟨by rfl, ?_⟩) hS ?_
                    rotate_left
                    · rintro w' ⟨s0, s1, s2, s3, s4, s5, s6⟩
                      go_simp
                      rfl
                    go_simp
                    refine wpAnyH_ready (rs := [9]) (by kernel_rfl) (by simp) ?_
                    refine AllReadyH.cons rfl (fun K hKK => ?_) AllReadyH.nil
                    go_simp
                    refine (HMY.out).mono ?_
                    rintro e w5 ⟨rfl, hb⟩
                    have HB5 := Lib.hid (show Below wc.heap.size wc w5 from (Below.refl _ _).drew.trans hb)
                    clear hb
                    go_simp
                    refine hKK.out _ _ (HSK.out w5 HB5.out) (fun hS' => ?_)
                    clear hKK hS
                    have hS := hS'
                    clear hS'
                    refine wpAnyH_take (i := 10) (v := ?_) rfl (by kernel_rfl) (by kernel_rfl) (by kernel_rfl) (fun _ _ _ h => h) (Or.inl ⟨by rfl, ?_⟩) hS ?_
                    rotate_left
                    · rintro w' ⟨s0, s1, s2, s3, s4, s5, s6⟩
                      go_simp
                      rfl
                    go_simp
                    refine wpAnyH_take (i := 11) (v := ?_) rfl (by kernel_rfl) (by kernel_rfl) (by kernel_rfl) (fun _ _ _ h => h) (Or.inl ⟨by rfl, ?_⟩) hS ?_
                    rotate_left
                    · rintro w' ⟨s0, s1, s2, s3, s4, s5, s6⟩
                      go_simp
                      rfl
                    go_simp
                    refine wpAnyH_take (i := 12) (v := undef) rfl (by kernel_rfl) (by kernel_rfl) (by kernel_rfl) (fun _ _ _ h => h) (Or.inr ⟨by rfl, rfl⟩) hS ?_
                    go_simp
                    refine wpAnyH_take (i := 13) (v := undef) rfl (by kernel_rfl) (by kernel_rfl) (by kernel_rfl) (fun _ _ _ h => h) (Or.inr ⟨by rfl, rfl⟩) hS ?_
                    go_simp
                    refine wpAnyH_take (i := 14) (v := undef) rfl (by kernel_rfl) (by kernel_rfl) (by kernel_rfl) (fun _ _ _ h => h) (Or.inr ⟨by rfl, rfl⟩) hS ?_
                    go_simp
                    refine wpAnyH_take (i := 15) (v := undef) rfl (by kernel_rfl) (by kernel_rfl) (by kernel_rfl) (fun _ _ _ h => h) (Or.inr ⟨by rfl, rfl⟩) hS ?_
                    go_simp
                    refine wpAnyH_take (i := 16) (v := undef) rfl (by kernel_rfl) (by kernel_rfl) (by kernel_rfl) (fun _ _ _ h => h) (Or.inr ⟨by rfl, rfl⟩) hS ?_
                    go_simp
                    refine wpAnyH_take (i := 17) (v := undef) rfl (by kernel_rfl) (by kernel_rfl) (by kernel_rfl) (fun _ _ _ h => h) (Or.inr ⟨by rfl, rfl⟩) hS ?_
                    go_simp
                    refine wpAnyH_take (i := 18) (v := undef) rfl (by kernel_rfl) (by kernel_rfl) (by kernel_rfl) (fun _ _ _ h => h) (Or.inr ⟨by rfl, rfl⟩) hS ?_
                    go_simp
                    refine wpAnyH_take (i := 19) (v := undef) rfl (by kernel_rfl) (by kernel_rfl) (by kernel_rfl) (fun _ _ _ h => h) (Or.inr ⟨by rfl, rfl⟩) hS ?_
                    go_simp
                    refine wpAnyH_take (i := 20) (v := undef) rfl (by kernel_rfl) (by kernel_rfl) (by kernel_rfl) (fun _ _ _ h => h) (Or.inr ⟨by rfl, rfl⟩) hS ?_
                    go_simp
                    refine wpAnyH_take (i := 21) (v := undef) rfl (by kernel_rfl) (by kernel_rfl) (by kernel_rfl) (fun _ _ _ h => h) (Or.inr ⟨by rfl, rfl⟩) hS ?_
                    go_simp
                    refine wpAnyH_take (i := 22) (v := undef) rfl (by kernel_rfl) (by kernel_rfl) (by kernel_rfl) (fun _ _ _ h => h) (Or.inr ⟨by rfl, rfl⟩) hS ?_
                    go_simp
                    refine wpAnyH_take (i := 23) (v := undef) rfl (by kernel_rfl) (by kernel_rfl) (by kernel_rfl) (fun _ _ _ h => h) (Or.inr ⟨by rfl, rfl⟩) hS ?_
                    go_simp
                    refine wpAnyH_take (i := 24) (v := undef) rfl (by kernel_rfl) (by kernel_rfl) (by kernel_rfl) (fun _ _ _ h => h) (Or.inr ⟨by rfl, rfl⟩) hS ?_
                    go_simp
                    refine wpAnyH_take (i := 25) (v := ?_) rfl (by kernel_rfl) (by kernel_rfl) (by kernel_rfl) (fun _ _ _ h => h) (Or.inl ⟨by rfl, ?_⟩) hS ?_
                    rotate_left
                    · rintro w' ⟨s0, s1, s2, s3, s4, s5, s6⟩
                      go_simp
                      rfl
                    go_simp
                    refine wpAnyH_done (by kernel_rfl) ?_ _
                    have LB := Lib.hid (LA.out.later HB5.out)
                    have BB := Lib.hid (BWA.out.trans (HB5.out.mono BWA.out.size))
                    go_wp2_with fail
                    go_roundg (c.wins.length - (kk + 1))
                    case measure => omega
                    case rel => exact ⟨kk + 1, by omega, by omega, by go_num, BB.out, NEXT.out (by simp)⟩
                  | true =>
                    have HMY := HMY0
                    by_cases hB : x < rm
                    · have hz := HIT.out hA rfl hB
                      subst hz
                      have hB2 : decide (x < rm) = true := decide_eq_true hB
                      go_wp2_with fail
                      refine wp_region_held_drew (S := (fun w' => w'.cell? ⟨w.heap.size, 0, none⟩ = some (.slice (some ⟨b, off, none⟩) c.wins.length wcp) ∧ w'.cell? ⟨w.heap.size, 1, none⟩ = some (.slice ta c.team.length tc) ∧ w'.cell? ⟨w.heap.size, 2, none⟩ = some (.slice (some ⟨br, or, none⟩) c.room.length rc) ∧ w'.cell? ⟨B17, 1, none⟩ = some (.int .i64 yt) ∧ w'.cell? ⟨bo, kk, none⟩ = some (.slice (some ⟨G, 0, none⟩) c.room.length c.room.length) ∧ w'.cell? ⟨G, t, none⟩ = some (.int .i64 x) ∧ w'.cell? ⟨br, or + t, none⟩ = some (.int .i64 rm))) (by kernel_rfl) (HSK.out _ (Below.refl _ _).drew) ?_
                      intro hS
                      refine wpAnyH_take (i := 0) (v := ?_) rfl (by kernel_rfl) (by kernel_rfl) (by kernel_rfl) (fun _ _ _ h => h) (Or.inl ⟨by rfl, ?_⟩) hS ?_
                      rotate_left
                      · rintro w' ⟨s0, s1, s2, s3, s4, s5, s6⟩
                        go_simp
                        rfl
                      go_simp
                      refine wpAnyH_take (i := 1) (v := ?_) rfl (by kernel_rfl) (by kernel_rfl) (by kernel_rfl) (fun _ _ _ h => h) (Or.inl ⟨by rfl, ?_⟩) hS ?_
                      rotate_left
                      · rintro w' ⟨s0, s1, s2, s3, s4, s5, s6⟩
                        go_simp
                        rfl
                      go_simp
                      refine wpAnyH_take (i := 2) (v := ?_) rfl (by kernel_rfl) (by kernel_rfl) (by kernel_rfl) (fun _ _ _ h => h) (Or.inl ⟨by rfl, ?_⟩) hS ?_
                      rotate_left
                      · rintro w' ⟨s0, s1, s2, s3, s4, s5, s6⟩
                        go_simp
                        rfl
                      go_simp
                      refine wpAnyH_take (i := 3) (v := ?_) rfl (by kernel_rfl) (by kernel_rfl) (by kernel_rfl) (fun _ _ _ h => h) (Or.inl ⟨by rfl, ?_⟩) hS ?_
                      rotate_left
                      · rintro w' ⟨s0, s1, s2, s3, s4, s5, s6⟩
                        go_simp
                        rfl
                      go_simp
                      refine wpAnyH_take (i := 4) (v := ?_) rfl (by kernel_rfl) (by kernel_rfl) (by kernel_rfl) (fun _ _ _ h => h) (Or.inl ⟨by rfl, ?_⟩) hS ?_
                      rotate_left
                      · rintro w' ⟨s0, s1, s2, s3, s4, s5, s6⟩
                        go_simp
                        rfl
                      go_simp
                      refine wpAnyH_take (i := 5) (v := ?_) rfl (by kernel_rfl) (by kernel_rfl) (by kernel_rfl) (fun _ _ _ h => h) (Or.inl ⟨by rfl, ?_⟩) hS ?_
                      rotate_left
                      · rintro w' ⟨s0, s1, s2, s3, s4, s5, s6⟩
                        go_simp
                        rfl
                      go_simp
                      refine wpAnyH_take (i := 6) (v := ?_) rfl (by kernel_rfl) (by kernel_rfl) (by kernel_rfl) (fun _ _ _ h => h) (Or.inl ⟨by rfl, ?_⟩) hS ?_
                      rotate_left
                      · rintro w' ⟨s0, s1, s2, s3, s4, s5, s6⟩
                        go_simp
                        rfl
                      go_simp
                      refine wpAnyH_take (i := 7) (v := ?_) rfl (by kernel_rfl) (by kernel_rfl) (by kernel_rfl) (fun _ _ _ h => h) (Or.inl ⟨by rfl, ?_⟩) hS ?_
                      rotate_left
                      · rintro w' ⟨s0, s1, s2, s3, s4, s5, s6⟩
                        go_simp
                        rfl
                      go_simp
                      refine wpAnyH_take (i := 8) (v := ?_) rfl (by kernel_rfl) (by kernel_rfl) (by kernel_rfl) (fun _ _ _ h => h) (Or.inl ⟨by rfl, ?_⟩) hS ?_
                      rotate_left
                      · rintro w' ⟨s0, s1, s2, s3, s4, s5, s6⟩
                        go_simp
                        rfl
                      go_simp
                      refine wpAnyH_ready (rs := [9]) (by kernel_rfl) (by simp) ?_
                      refine AllReadyH.cons rfl (fun K hKK => ?_) AllReadyH.nil
                      go_simp
                      refine (HMY.out).mono ?_
                      rintro e w5 ⟨rfl, hb⟩
                      have HB5 := Lib.hid (show Below wc.heap.size wc w5 from (Below.refl _ _).drew.trans hb)
                      clear hb
                      go_simp
                      refine hKK.out _ _ (HSK.out w5 HB5.out) (fun hS' => ?_)
                      clear hKK hS
                      have hS := hS'
                      clear hS'
                      refine wpAnyH_take (i := 10) (v := ?_) rfl (by kernel_rfl) (by kernel_rfl) (by kernel_rfl) (fun _ _ _ h => h) (Or.inl ⟨by rfl, ?_⟩) hS ?_
                      rotate_left
                      · rintro w' ⟨s0, s1, s2, s3, s4, s5, s6⟩
                        go_simp
                        rfl
                      go_simp
                      refine wpAnyH_take (i := 11) (v := ?_) rfl (by kernel_rfl) (by kernel_rfl) (by kernel_rfl) (fun _ _ _ h => h) (Or.inl ⟨by rfl, ?_⟩) hS ?_
                      rotate_left
                      · rintro w' ⟨s0, s1, s2, s3, s4, s5, s6⟩
                        go_simp
                        rfl
                      go_simp
                      refine wpAnyH_take (i := 12) (v := ?_) rfl (by kernel_rfl) (by kernel_rfl) (by kernel_rfl) (fun _ _ _ h => h) (Or.inl ⟨by rfl, ?_⟩) hS ?_
                      rotate_left
                      · rintro w' ⟨s0, s1, s2, s3, s4, s5, s6⟩
                        go_simp
                        rfl
                      go_simp
                      refine wpAnyH_take (i := 13) (v := ?_) rfl (by kernel_rfl) (by kernel_rfl) (by kernel_rfl) (fun _ _ _ h => h) (Or.inl ⟨by rfl, ?_⟩) hS ?_
                      rotate_left
                      · rintro w' ⟨s0, s1, s2, s3, s4, s5, s6⟩
                        go_simp
                        rfl
                      go_simp
                      refine wpAnyH_take (i := 14) (v := ?_) rfl (by kernel_rfl) (by kernel_rfl) (by kernel_rfl) (fun _ _ _ h => h) (Or.inl ⟨by rfl, ?_⟩) hS ?_
                      rotate_left
                      · rintro w' ⟨s0, s1, s2, s3, s4, s5, s6⟩
                        go_simp
                        rfl
                      go_simp
                      refine wpAnyH_take (i := 15) (v := ?_) rfl (by kernel_rfl) (by kernel_rfl) (by kernel_rfl) (fun _ _ _ h => h) (Or.inl ⟨by rfl, ?_⟩) hS ?_
                      rotate_left
                      · rintro w' ⟨s0, s1, s2, s3, s4, s5, s6⟩
                        go_simp
                        rfl
                      go_simp
                      refine wpAnyH_take (i := 16) (v := ?_) rfl (by kernel_rfl) (by kernel_rfl) (by kernel_rfl) (fun _ _ _ h => h) (Or.inl ⟨by rfl, ?_⟩) hS ?_
                      rotate_left
                      · rintro w' ⟨s0, s1, s2, s3, s4, s5, s6⟩
                        go_simp
                        rfl
                      go_simp
                      refine wpAnyH_take (i := 17) (v := ?_) rfl (by kernel_rfl) (by kernel_rfl) (by kernel_rfl) (fun _ _ _ h => h) (Or.inl ⟨by rfl, ?_⟩) hS ?_
                      rotate_left
                      · rintro w' ⟨s0, s1, s2, s3, s4, s5, s6⟩
                        go_simp
                        rfl
                      go_simp
                      refine wpAnyH_take (i := 18) (v := ?_) rfl (by kernel_rfl) (by kernel_rfl) (by kernel_rfl) (fun _ _ _ h => h) (Or.inl ⟨by rfl, ?_⟩) hS ?_
                      rotate_left
                      · rintro w' ⟨s0, s1, s2, s3, s4, s5, s6⟩
                        go_simp
                        rfl
                      go_simp
                      refine wpAnyH_take (i := 19) (v := ?_) rfl (by kernel_rfl) (by kernel_rfl) (by kernel_rfl) (fun _ _ _ h => h) (Or.inl ⟨by rfl, ?_⟩) hS ?_
                      rotate_left
                      · rintro w' ⟨s0, s1, s2, s3, s4, s5, s6⟩
                        go_simp
                        rfl
                      go_simp
                      refine wpAnyH_take (i := 20) (v := ?_) rfl (by kernel_rfl) (by kernel_rfl) (by kernel_rfl) (fun _ _ _ h => h) (Or.inl ⟨by rfl, ?_⟩) hS ?_
                      rotate_left
                      · rintro w' ⟨s0, s1, s2, s3, s4, s5, s6⟩
                        go_simp
                        rfl
                      go_simp
                      refine wpAnyH_take (i := 21) (v := ?_) rfl (by kernel_rfl) (by kernel_rfl) (by kernel_rfl) (fun _ _ _ h => h) (Or.inl ⟨by rfl, ?_⟩) hS ?_
                      rotate_left
                      · rintro w' ⟨s0, s1, s2, s3, s4, s5, s6⟩
                        go_simp
                        rfl
                      go_simp
                      refine wpAnyH_take (i := 22) (v := ?_) rfl (by kernel_rfl) (by kernel_rfl) (by kernel_rfl) (fun _ _ _ h => h) (Or.inl ⟨by rfl, ?_⟩) hS ?_
                      rotate_left
                      · rintro w' ⟨s0, s1, s2, s3, s4, s5, s6⟩
                        go_simp
                        rfl
                      go_simp
                      refine wpAnyH_take (i := 23) (v := ?_) rfl (by kernel_rfl) (by kernel_rfl) (by kernel_rfl) (fun _ _ _ h => h) (Or.inl ⟨by rfl, ?_⟩) hS ?_
                      rotate_left
                      · rintro w' ⟨s0, s1, s2, s3, s4, s5, s6⟩
                        go_simp
                        rfl
                      go_simp
                      refine wpAnyH_take (i := 24) (v := ?_) rfl (by kernel_rfl) (by kernel_rfl) (by kernel_rfl) (fun _ _ _ h => h) (Or.inl ⟨by rfl, ?_⟩) hS ?_
                      rotate_left
                      · rintro w' ⟨s0, s1, s2, s3, s4, s5, s6⟩
                        go_simp
                        rfl
                      go_simp
                      refine wpAnyH_take (i := 25) (v := ?_) rfl (by kernel_rfl) (by kernel_rfl) (by kernel_rfl) (fun _ _ _ h => h) (Or.inl ⟨by rfl, ?_⟩) hS ?_
                      rotate_left
                      · rintro w' ⟨s0, s1, s2, s3, s4, s5, s6⟩
                        go_simp
                        rfl
                      go_simp
                      refine wpAnyH_done (by kernel_rfl) ?_ _
                      have LB := Lib.hid (LA.out.later HB5.out)
                      go_wp2_with fail
                      go_ret3
                      exact ⟨rfl, LB.out.below⟩
                    · have hB2 : decide (x < rm) = false := decide_eq_false hB
                      go_wp2_with fail
                      refine wp_region_held_drew (S := (fun w' => w'.cell? ⟨w.heap.size, 0, none⟩ = some (.slice (some ⟨b, off, none⟩) c.wins.length wcp) ∧ w'.cell? ⟨w.heap.size, 1, none⟩ = some (.slice ta c.team.length tc) ∧ w'.cell? ⟨w.heap.size, 2, none⟩ = some (.slice (some ⟨br, or, none⟩) c.room.length rc) ∧ w'.cell? ⟨B17, 1, none⟩ = some (.int .i64 yt) ∧ w'.cell? ⟨bo, kk, none⟩ = some (.slice (some ⟨G, 0, none⟩) c.room.length c.room.length) ∧ w'.cell? ⟨G, t, none⟩ = some (.int .i64 x) ∧ w'.cell? ⟨br, or + t, none⟩ = some (.int .i64 rm))) (by kernel_rfl) (HSK.out _ (Below.refl _ _).drew) ?_
                      intro hS
                      refine wpAnyH_take (i := 0) (v := ?_) rfl (by kernel_rfl) (by kernel_rfl) (by kernel_rfl) (fun _ _ _ h => h) (Or.inl ⟨by rfl, ?_⟩) hS ?_
                      rotate_left
                      · rintro w' ⟨s0, s1, s2, s3, s4, s5, s6⟩
                        go_simp
                        rfl
                      go_simp
                      refine wpAnyH_take (i := 1) (v := ?_) rfl (by kernel_rfl) (by kernel_rfl) (by kernel_rfl) (fun _ _ _ h => h) (Or.inl ⟨by rfl, ?_⟩) hS ?_
                      rotate_left
                      · rintro w' ⟨s0, s1, s2, s3, s4, s5, s6⟩
                        go_simp
                        rfl
                      go_simp
                      refine wpAnyH_take (i := 2) (v := ?_) rfl (by kernel_rfl) (by kernel_rfl) (by kernel_rfl) (fun _ _ _ h => h) (Or.inl ⟨by rfl, ?_⟩) hS ?_
                      rotate_left
                      · rintro w' ⟨s0, s1, s2, s3, s4, s5, s6⟩
                        go_simp
                        rfl
                      go_simp
                      refine wpAnyH_take (i := 3) (v := ?_) rfl (by kernel_rfl) (by kernel_rfl) (by kernel_rfl) (fun _ _ _ h => h) (Or.inl ⟨by rfl, ?_⟩) hS ?_
                      rotate_left
                      · rintro w' ⟨s0, s1, s2, s3, s4, s5, s6⟩
                        go_simp
                        rfl
                      go_simp
                      refine wpAnyH_take (i := 4) (v := ?_) rfl (by kernel_rfl) (by kernel_rfl) (by kernel_rfl) (fun _ _ _ h => h) (Or.inl ⟨by rfl, ?_⟩) hS ?_
                      rotate_left
                      · rintro w' ⟨s0, s1, s2, s3, s4, s5, s6⟩
                        go_simp
                        rfl
                      go_simp
                      refine wpAnyH_take (i := 5) (v := ?_) rfl (by kernel_rfl) (by kernel_rfl) (by kernel_rfl) (fun _ _ _ h => h) (Or.inl ⟨by rfl, ?_⟩) hS ?_
                      rotate_left
                      · rintro w' ⟨s0, s1, s2, s3, s4, s5, s6⟩
                        go_simp
                        rfl
                      go_simp
                      refine wpAnyH_take (i := 6) (v := ?_) rfl (by kernel_rfl) (by kernel_rfl) (by kernel_rfl) (fun _ _ _ h => h) (Or.inl ⟨by rfl, ?_⟩) hS ?_
                      rotate_left
                      · rintro w' ⟨s0, s1, s2, s3, s4, s5, s6⟩
                        go_simp
                        rfl
                      go_simp
                      refine wpAnyH_take (i := 7) (v := ?_) rfl (by kernel_rfl) (by kernel_rfl) (by kernel_rfl) (fun _ _ _ h => h) (Or.inl ⟨by rfl, ?_⟩) hS ?_
                      rotate_left
                      · rintro w' ⟨s0, s1, s2, s3, s4, s5, s6⟩
                        go_simp
                        rfl
                      go_simp
                      refine wpAnyH_take (i := 8) (v := ?_) rfl (by kernel_rfl) (by kernel_rfl) (by kernel_rfl) (fun _ _ _ h => h) (Or.inl ⟨by rfl, ?_⟩) hS ?_
                      rotate_left
                      · rintro w' ⟨s0, s1, s2, s3, s4, s5, s6⟩
                        go_simp
                        rfl
                      go_simp
                      refine wpAnyH_ready (rs := [9]) (by kernel_rfl) (by simp) ?_
                      refine AllReadyH.cons rfl (fun K hKK => ?_) AllReadyH.nil
                      go_simp
                      refine (HMY.out).mono ?_
                      rintro e w5 ⟨rfl, hb⟩
                      have HB5 := Lib.hid (show Below wc.heap.size wc w5 from (Below.refl _ _).drew.trans hb)
                      clear hb
                      go_simp
                      refine hKK.out _ _ (HSK.out w5 HB5.out) (fun hS' => ?_)
                      clear hKK hS
                      have hS := hS'
                      clear hS'
                      refine wpAnyH_take (i := 10) (v := ?_) rfl (by kernel_rfl) (by kernel_rfl) (by kernel_rfl) (fun _ _ _ h => h) (Or.inl ⟨by rfl, ?_⟩) hS ?_
                      rotate_left
                      · rintro w' ⟨s0, s1, s2, s3, s4, s5, s6⟩
                        go_simp
                        rfl
                      go_simp
                      refine wpAnyH_take (i := 11) (v := ?_) rfl (by kernel_rfl) (by kernel_rfl) (by kernel_rfl) (fun _ _ _ h => h) (Or.inl ⟨by rfl, ?_⟩) hS ?_
                      rotate_left
                      · rintro w' ⟨s0, s1, s2, s3, s4, s5, s6⟩
                        go_simp
                        rfl
                      go_simp
                      refine wpAnyH_take (i := 12) (v := ?_) rfl (by kernel_rfl) (by kernel_rfl) (by kernel_rfl) (fun _ _ _ h => h) (Or.inl ⟨by rfl, ?_⟩) hS ?_
                      rotate_left
                      · rintro w' ⟨s0, s1, s2, s3, s4, s5, s6⟩
                        go_simp
                        rfl
                      go_simp
                      refine wpAnyH_take (i := 13) (v := ?_) rfl (by kernel_rfl) (by kernel_rfl) (by kernel_rfl) (fun _ _ _ h => h) (Or.inl ⟨by rfl, ?_⟩) hS ?_
                      rotate_left
                      · rintro w' ⟨s0, s1, s2, s3, s4, s5, s6⟩
                        go_simp
                        rfl
                      go_simp
                      refine wpAnyH_take (i := 14) (v := ?_) rfl (by kernel_rfl) (by kernel_rfl) (by kernel_rfl) (fun _ _ _ h => h) (Or.inl ⟨by rfl, ?_⟩) hS ?_
                      rotate_left
                      · rintro w' ⟨s0, s1, s2, s3, s4, s5, s6⟩
                        go_simp
                        rfl
                      go_simp
                      refine wpAnyH_take (i := 15) (v := ?_) rfl (by kernel_rfl) (by kernel_rfl) (by kernel_rfl) (fun _ _ _ h => h) (Or.inl ⟨by rfl, ?_⟩) hS ?_
                      rotate_left
                      · rintro w' ⟨s0, s1, s2, s3, s4, s5, s6⟩
                        go_simp
                        rfl
                      go_simp
                      refine wpAnyH_take (i := 16) (v := ?_) rfl (by kernel_rfl) (by kernel_rfl) (by kernel_rfl) (fun _ _ _ h => h) (Or.inl ⟨by rfl, ?_⟩) hS ?_
                      rotate_left
                      · rintro w' ⟨s0, s1, s2, s3, s4, s5, s6⟩
                        go_simp
                        rfl
                      go_simp
                      refine wpAnyH_take (i := 17) (v := ?_) rfl (by kernel_rfl) (by kernel_rfl) (by kernel_rfl) (fun _ _ _ h => h) (Or.inl ⟨by rfl, ?_⟩) hS ?_
                      rotate_left
                      · rintro w' ⟨s0, s1, s2, s3, s4, s5, s6⟩
                        go_simp
                        rfl
                      go_simp
                      refine wpAnyH_take (i := 18) (v := ?_) rfl (by kernel_rfl) (by kernel_rfl) (by kernel_rfl) (fun _ _ _ h => h) (Or.inl ⟨by rfl, ?_⟩) hS ?_
                      rotate_left
                      · rintro w' ⟨s0, s1, s2, s3, s4, s5, s6⟩
                        go_simp
                        rfl
                      go_simp
                      refine wpAnyH_take (i := 19) (v := ?_) rfl (by kernel_rfl) (by kernel_rfl) (by kernel_rfl) (fun _ _ _ h => h) (Or.inl ⟨by rfl, ?_⟩) hS ?_
                      rotate_left
                      · rintro w' ⟨s0, s1, s2, s3, s4, s5, s6⟩
                        go_simp
                        rfl
                      go_simp
                      refine wpAnyH_take (i := 20) (v := ?_) rfl (by kernel_rfl) (by kernel_rfl) (by kernel_rfl) (fun _ _ _ h => h) (Or.inl ⟨by rfl, ?_⟩) hS ?_
                      rotate_left
                      · rintro w' ⟨s0, s1, s2, s3, s4, s5, s6⟩
                        go_simp
                        rfl
                      go_simp
                      refine wpAnyH_take (i := 21) (v := ?_) rfl (by kernel_rfl) (by kernel_rfl) (by kernel_rfl) (fun _ _ _ h => h) (Or.inl ⟨by rfl, ?_⟩) hS ?_
                      rotate_left
                      · rintro w' ⟨s0, s1, s2, s3, s4, s5, s6⟩
                        go_simp
                        rfl
                      go_simp
                      refine wpAnyH_take (i := 22) (v := ?_) rfl (by kernel_rfl) (by kernel_rfl) (by kernel_rfl) (fun _ _ _ h => h) (Or.inl ⟨by rfl, ?_⟩) hS ?_
                      rotate_left
                      · rintro w' ⟨s0, s1, s2, s3, s4, s5, s6⟩
                        go_simp
                        rfl
                      go_simp
                      refine wpAnyH_take (i := 23) (v := ?_) rfl (by kernel_rfl) (by kernel_rfl) (by kernel_rfl) (fun _ _ _ h => h) (Or.inl ⟨by rfl, ?_⟩) hS ?_
                      rotate_left
                      · rintro w' ⟨s0, s1, s2, s3, s4, s5, s6⟩
                        go_simp
                        rfl
                      go_simp
                      refine wpAnyH_take (i := 24) (v := ?_) rfl (by kernel_rfl) (by kernel_rfl) (by kernel_rfl) (fun _ _ _ h => h) (Or.inl ⟨by rfl, ?_⟩) hS ?_
                      rotate_left
                      · rintro w' ⟨s0, s1, s2, s3, s4, s5, s6⟩
                        go_simp
                        rfl
                      go_simp
                      refine wpAnyH_take (i := 25) (v := ?_) rfl (by kernel_rfl) (by kernel_rfl) (by kernel_rfl) (fun _ _ _ h => h) (Or.inl ⟨by rfl, ?_⟩) hS ?_
                      rotate_left
                      · rintro w' ⟨s0, s1, s2, s3, s4, s5, s6⟩
                        go_simp
                        rfl
                      go_simp
                      refine wpAnyH_done (by kernel_rfl) ?_ _
                      have LB := Lib.hid (LA.out.later HB5.out)
                      have BB := Lib.hid (BWA.out.trans (HB5.out.mono BWA.out.size))
                      go_wp2_with fail
                      go_roundg (c.wins.length - (kk + 1))
                      case measure => omega
                      case rel => exact ⟨kk + 1, by omega, by omega, by go_num, BB.out, NEXT.out (by omega)⟩
                · have hA2 : decide (dd < yt) = false := decide_eq_false hA
                  go_wp2_with fail
                  refine wp_region_held_drew (S := (fun w' => w'.cell? ⟨w.heap.size, 0, none⟩ = some (.slice (some ⟨b, off, none⟩) c.wins.length wcp) ∧ w'.cell? ⟨w.heap.size, 1, none⟩ = some (.slice ta c.team.length tc) ∧ w'.cell? ⟨w.heap.size, 2, none⟩ = some (.slice (some ⟨br, or, none⟩) c.room.length rc) ∧ w'.cell? ⟨B17, 1, none⟩ = some (.int .i64 yt) ∧ w'.cell? ⟨bo, kk, none⟩ = some (.slice (some ⟨G, 0, none⟩) c.room.length c.room.length) ∧ w'.cell? ⟨G, t, none⟩ = some (.int .i64 x) ∧ w'.cell? ⟨br, or + t, none⟩ = some (.int .i64 rm))) (by kernel_rfl) (HSK.out _ (Below.refl _ _).drew) ?_
                  intro hS
                  refine wpAnyH_take (i := 0) (v := ?_) rfl (by kernel_rfl) (by kernel_rfl) (by kernel_rfl) (fun _ _ _ h => h) (Or.inl ⟨by rfl, ?_⟩) hS ?_
                  rotate_left
                  · rintro w' ⟨s0, s1, s2, s3, s4, s5, s6⟩
                    go_simp
                    rfl
                  go_simp
                  refine wpAnyH_take (i := 1) (v := ?_) rfl (by kernel_rfl) (by kernel_rfl) (by kernel_rfl) (fun _ _ _ h => h) (Or.inl ⟨by rfl, ?_⟩) hS ?_
                  rotate_left
                  · rintro w' ⟨s0, s1, s2, s3, s4, s5, s6⟩
                    go_simp
                    rfl
                  go_simp
                  refine wpAnyH_take (i := 2) (v := ?_) rfl (by kernel_rfl) (by kernel_rfl) (by kernel_rfl) (fun _ _ _ h => h) (Or.inl ⟨by rfl, ?_⟩) hS ?_
                  rotate_left
                  · rintro w' ⟨s0, s1, s2, s3, s4, s5, s6⟩
                    go_simp
                    rfl
                  go_simp
                  refine wpAnyH_take (i := 3) (v := ?_) rfl (by kernel_rfl) (by kernel_rfl) (by kernel_rfl) (fun _ _ _ h => h) (Or.inl ⟨by rfl, ?_⟩) hS ?_
                  rotate_left
                  · rintro w' ⟨s0, s1, s2, s3, s4, s5, s6⟩
                    go_simp
                    rfl
                  go_simp
                  refine wpAnyH_take (i := 4) (v := ?_) rfl (by kernel_rfl) (by kernel_rfl) (by kernel_rfl) (fun _ _ _ h => h) (Or.inl ⟨by rfl, ?_⟩) hS ?_
                  rotate_left
                  · rintro w' ⟨s0, s1, s2, s3, s4, s5, s6⟩
                    go_simp
                    rfl
                  go_simp
                  refine wpAnyH_take (i := 5) (v := ?_) rfl (by kernel_rfl) (by kernel_rfl) (by kernel_rfl) (fun _ _ _ h => h) (Or.inl ⟨by rfl, ?_⟩) hS ?_
                  rotate_left
                  · rintro w' ⟨s0, s1, s2, s3, s4, s5, s6⟩
                    go_simp
                    rfl
                  go_simp
                  refine wpAnyH_take (i := 6) (v := undef) rfl (by kernel_rfl) (by kernel_rfl) (by kernel_rfl) (fun _ _ _ h => h) (Or.inr ⟨by rfl, rfl⟩) hS ?_
                  go_simp
                  refine wpAnyH_take (i := 7) (v := undef) rfl (by kernel_rfl) (by kernel_rfl) (by kernel_rfl) (fun _ _ _ h => h) (Or.inr ⟨by rfl, rfl⟩) hS ?_
                  go_simp
                  refine wpAnyH_take (i := 8) (v := undef) rfl (by kernel_rfl) (by kernel_rfl) (by kernel_rfl) (fun _ _ _ h => h) (Or.inr ⟨by rfl, rfl⟩) hS ?_
                  go_simp
                  refine wpAnyH_take (i := 9) (v := undef) rfl (by kernel_rfl) (by kernel_rfl) (by kernel_rfl) (fun _ _ _ h => h) (Or.inr ⟨by rfl, rfl⟩) hS ?_
                  go_simp
                  refine wpAnyH_take (i := 10) (v := ?_) rfl (by kernel_rfl) (by kernel_rfl) (by kernel_rfl) (fun _ _ _ h => h) (Or.inl ⟨by rfl, ?_⟩) hS ?_
                  rotate_left
                  · rintro w' ⟨s0, s1, s2, s3, s4, s5, s6⟩
                    go_simp
                    rfl
                  go_simp
                  refine wpAnyH_take (i := 11) (v := ?_) rfl (by kernel_rfl) (by kernel_rfl) (by kernel_rfl) (fun _ _ _ h => h) (Or.inl ⟨by rfl, ?_⟩) hS ?_
                  rotate_left
                  · rintro w' ⟨s0, s1, s2, s3, s4, s5, s6⟩
                    go_simp
                    rfl
                  go_simp
                  refine wpAnyH_take (i := 12) (v := undef) rfl (by kernel_rfl) (by kernel_rfl) (by kernel_rfl) (fun _ _ _ h => h) (Or.inr ⟨by rfl, rfl⟩) hS ?_
                  go_simp
                  refine wpAnyH_take (i := 13) (v := undef) rfl (by kernel_rfl) (by kernel_rfl) (by kernel_rfl) (fun _ _ _ h => h) (Or.inr ⟨by rfl, rfl⟩) hS ?_
                  go_simp
                  refine wpAnyH_take (i := 14) (v := undef) rfl (by kernel_rfl) (by kernel_rfl) (by kernel_rfl) (fun _ _ _ h => h) (Or.inr ⟨by rfl, rfl⟩) hS ?_
                  go_simp
                  refine wpAnyH_take (i := 15) (v := undef) rfl (by kernel_rfl) (by kernel_rfl) (by kernel_rfl) (fun _ _ _ h => h) (Or.inr ⟨by rfl, rfl⟩) hS ?_
                  go_simp
                  refine wpAnyH_take (i := 16) (v := undef) rfl (by kernel_rfl) (by kernel_rfl) (by kernel_rfl) (fun _ _ _ h => h) (Or.inr ⟨by rfl, rfl⟩) hS ?_
                  go_simp
                  refine wpAnyH_take (i := 17) (v := undef) rfl (by kernel_rfl) (by kernel_rfl) (by kernel_rfl) (fun _ _ _ h => h) (Or.inr ⟨by rfl, rfl⟩) hS ?_
                  go_simp
                  refine wpAnyH_take (i := 18) (v := undef) rfl (by kernel_rfl) (by kernel_rfl) (by kernel_rfl) (fun _ _ _ h => h) (Or.inr ⟨by rfl, rfl⟩) hS ?_
                  go_simp
                  refine wpAnyH_take (i := 19) (v := undef) rfl (by kernel_rfl) (by kernel_rfl) (by kernel_rfl) (fun _ _ _ h => h) (Or.inr ⟨by rfl, rfl⟩) hS ?_
                  go_simp
                  refine wpAnyH_take (i := 20) (v := undef) rfl (by kernel_rfl) (by kernel_rfl) (by kernel_rfl) (fun _ _ _ h => h) (Or.inr ⟨by rfl, rfl⟩) hS ?_
                  go_simp
                  refine wpAnyH_take (i := 21) (v := undef) rfl (by kernel_rfl) (by kernel_rfl) (by kernel_rfl) (fun _ _ _ h => h) (Or.inr ⟨by rfl, rfl⟩) hS ?_
                  go_simp
                  refine wpAnyH_take (i := 22) (v := undef) rfl (by kernel_rfl) (by kernel_rfl) (by kernel_rfl) (fun _ _ _ h => h) (Or.inr ⟨by rfl, rfl⟩) hS ?_
                  go_simp
                  refine wpAnyH_take (i := 23) (v := undef) rfl (by kernel_rfl) (by kernel_rfl) (by kernel_rfl) (fun _ _ _ h => h) (Or.inr ⟨by rfl, rfl⟩) hS ?_
                  go_simp
                  refine wpAnyH_take (i := 24) (v := undef) rfl (by kernel_rfl) (by kernel_rfl) (by kernel_rfl) (fun _ _ _ h => h) (Or.inr ⟨by rfl, rfl⟩) hS ?_
                  go_simp
                  refine wpAnyH_take (i := 25) (v := ?_) rfl (by kernel_rfl) (by kernel_rfl) (by kernel_rfl) (fun _ _ _ h => h) (Or.inl ⟨by rfl, ?_⟩) hS ?_
                  rotate_left
                  · rintro w' ⟨s0, s1, s2, s3, s4, s5, s6⟩
                    go_simp
                    rfl
                  go_simp
                  refine wpAnyH_done (by kernel_rfl) ?_ _
                  have BB := Lib.hid (show Below w3.heap.size w3 wc.drew from BWA.out.drew)
                  go_wp2_with fail
                  go_roundg (c.wins.length - (kk + 1))
                  case measure => omega
                  case rel => exact ⟨kk + 1, by omega, by omega, by go_num, BB.out, NEXT.out (by omega)⟩
              · have hltz : ¬ (kk : Int) < (c.wins.length : Int) := by omega
                have hzz : z = (0, false) := by
                  rw [HZ1.out]
                  exact firstD_miss fun j hj => A.out j hj (by omega)
                subst hzz
                go_wp2_with fail
                go_ret3
                exact ⟨rfl, L4.out.below⟩
          · have hzz := HNO.out hq0
            subst hzz
            have hbq : (q != 0) = true := by simpa using hq0
            clear HZ HNO HQ1 HLD
            go_wp2_with fail
            go_ret3
            exact ⟨rfl, L2.out.below⟩
        · have hq : q = 2 := by
            rw [HQ.out]
            unfold earlE
            have : loadE c ts ds [tm] = 2 := by
              unfold loadE
              rw [if_neg (by rw [HCK0.out]; simp), if_neg (by rw [HLEN.out]; simp), if_neg h24, if_pos]
              unfold rangeB
              rw [List.all_append]
              have : inB tm 0 ((c.room.length : Int) - 1) = false := by unfold inB; simp; omega
              simp [this]
            rw [this, if_pos (by decide)]
          have hzz := HNO.out (by rw [hq]; decide)
          subst hq
          subst hzz
          clear HQ HZ HNO HFT HLD
          by_cases ht1 : tm < 0
          · go_wp2_with fail
            go_ret3
            exact ⟨rfl, L.out.below⟩
          · have ht2 : (c.room.length : Int) ≤ tm := by omega
            go_wp2_with fail
            go_ret3
            exact ⟨rfl, L.out.below⟩
    · have hq : q = 1 := by
        rw [HQ.out]
        unfold earlE
        have : loadE c ts ds [tm] = 1 := by
          unfold loadE
          rw [if_neg (by rw [HCK0.out]; simp), if_pos hlen]
        rw [this, if_pos (by decide)]
      have hzz := HNO.out (by rw [hq]; decide)
      subst hq
      subst hzz
      have hbe : ((ts.length : Int) != (ds.length : Int)) = true := by
        simp only [bne_iff_ne, ne_eq]
        omega
      clear HQ HZ HNO HFT HLD
      go_wp2_with fail
      go_ret3
      exact ⟨rfl, L.out.below⟩
  · have hq : q = ck := by
      rw [HQ.out]
      unfold earlE
      have : loadE c ts ds [tm] = ck := by
        unfold loadE
        rw [if_pos (by rw [← HC0.out]; exact hz), HC0.out]
      rw [this, if_pos hz]
    have hzz := HNO.out (by rw [hq]; exact hz)
    subst hq
    subst hzz
    have hbe : (q != 0) = true := by simpa using hz
    clear HQ HZ HNO HFT HLD HC0
    go_wp2_with fail
    go_ret3
    exact ⟨rfl, L.out.below⟩
end Go.Proofs.Ytpbahffkhpfakaa


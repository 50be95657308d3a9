import Derived.Test.YtpbahffkhpfakaaWLoa2
namespace Go.Proofs.Ytpbahffkhpfakaa
open Go.RowKit
set_option linter.unusedSimpArgs false
set_option linter.unusedVariables false

theorem may_at {c : Cal} {t d : Int} (h : mayF c t d = true) : ∃ k : Nat, k < c.wins.length ∧ atF c d = (k : Int) := by
  unfold mayF at h
  unfold atF
  rcases firstI_cases (hasB d) c.wins with ⟨k, hk, e, _⟩ | ⟨e, hm⟩
  · exact ⟨k, hk, e⟩
  · rw [firstI_none hm] at h
    cases h
theorem zip_take_snoc {ts ds : List Int} {k : Nat} (h1 : k < ts.length) (h2 : k < ds.length) : (ts.zip ds).take (k + 1) = (ts.zip ds).take k ++ [(ts[k], ds[k])] := by
  rw [List.take_add_one, List.getElem?_eq_getElem (by rw [List.length_zip]; omega)]
  simp

set_option maxRecDepth 100000 in
set_option maxHeartbeats 16000000 in
theorem load_main (c : Cal) (v1 v2 v3 : Value) (ts ds ask : List Int) (w : World) (h : CalAt w c) (h1 : IntsAt w v1 ts) (h2 : IntsAt w v2 ds) (h3 : IntsAt w v3 ask) (n1 : NilOk v1) (n3 : NilOk v3) (ha : ask.length ≤ 800) (h0 : checkF c c.team.length = 0) (hn : ts.length = ds.length) (h24 : ts.length ≤ 24) :
    Calls Try.prog 53 #[c.val, v1, v2, v3] w fun e w' => LoadOut c ts ds ask w e w' := by
  have HE := Lib.hid (show loadE c ts ds ask = if rangeB c (ts ++ ask) = false then 2 else if mayB c (ts.zip ds) = false then 47 else 0 by
    unfold loadE
    rw [if_neg (by rw [h0]; simp), if_neg (by omega), if_neg (by omega)])
  have HOK := Lib.hid (ok0_of h0)
  have H0 := Lib.hid (ld0 w c h)
  have HC := Lib.hid (fun W (hW : CalAt W c) => check_any c c.team.length W hW)
  rw [h0] at HC
  have HAT := Lib.hid (fun day W (hW : CalAt W c) => at_cal c day W hW)
  have HMAY := Lib.hid (fun team day W (hW : CalAt W c) => may_any c team day W hW)
  have HI := Lib.hid (fun W (hW : Below w.heap.size w W) => (⟨h1.below hW, h2.below hW, h3.below hW⟩ : IntsAt W v1 ts ∧ IntsAt W v2 ds ∧ IntsAt W v3 ask))
  have N1 := Lib.hid n1
  have N3 := Lib.hid n3
  have hl1 := h1.1
  have hl3 := h3.1
  have hrl := h.room.1
  have hmf : ∀ (fn : Fn) (first cap : Array Value) (w : World), (Instr.makeFunc fn first cap).run Try.prog w = .ok (.func fn first cap) w := fun _ _ _ _ => rfl
  obtain ⟨wa, wc, ta, tc, ra, rc, e1, e2, e3⟩ := h.forms
  obtain ⟨a1, m1, rfl⟩ := h1.form
  obtain ⟨a2, m2, rfl⟩ := h2.form
  obtain ⟨a3, m3, rfl⟩ := h3.form
  have hv : c.val = .agg #[.slice wa c.wins.length wc, .slice ta c.team.length tc, .slice ra c.room.length rc] := by unfold Cal.val; rw [e1, e2, e3]
  rw [hv] at HC HAT HMAY ⊢
  rw [e1, e2, e3] at H0
  have HD := Lib.hid (fun (W : World) (f : Nat → Int) (hL : Ld w W c f) => show W.cell? ⟨w.heap.size, 0, none⟩ = some (.slice wa c.wins.length wc) ∧ W.cell? ⟨w.heap.size, 1, none⟩ = some (.slice ta c.team.length tc) ∧ W.cell? ⟨w.heap.size, 2, none⟩ = some (.slice ra c.room.length rc) from ⟨by rw [← e1]; exact hL.d0, by rw [← e2]; exact hL.d1, by rw [← e3]; exact hL.d2⟩)
  clear hv e1 e2 e3
  have HH := Lib.hid hn
  have HA := Lib.hid ha
  clear h h1 h2 h3 h0 n1 n3 ha
  unfold LoadOut
  generalize loadE c ts ds ask = le at *
  have hq : ((ts.length : Int) == (ds.length : Int)) = true := by simp; omega
  have hg : ¬ (24 : Int) < (ts.length : Int) := by omega
  clear hn
  go_enter Try.func53, Try.ntmps53
  go_wp2_with fail
  generalize (((w.alloc (.cells #[.slice wa c.wins.length wc, .slice ta c.team.length tc, .slice ra c.room.length rc] 25)).alloc (.cells Try.zeroCells76 76)).alloc (.cells Try.zeroCells76 76)) = W0 at *
  refine (HC.out _ H0.out.cal).mono ?_
  rintro e w1 ⟨rfl, hb⟩
  have H1 := Lib.hid (H0.out.later hb)
  clear hb H0 HC
  go_wp2_with fail
  have hbA : Below w1.heap.size w1 (w1.alloc (.cells #[.slice a1 ts.length m1, .slice a3 ask.length m3] 22)) := (Below.refl _ _).alloc (Nat.le_refl _) _
  have LA := Lib.hid (H1.out.later hbA)
  have hiA := HI.out _ LA.out.below
  have hct := concat_int w1.heap.size _ _ ts ask (w1.alloc (.cells #[.slice a1 ts.length m1, .slice a3 ask.length m3] 22)) (by simp) (by simp) (by simp) hiA.1 hiA.2.2 N1.out N3.out (by have := HA.out; omega)
  clear hiA hbA
  refine hct.mono ?_
  rintro e w2 ⟨v4, rfl, i4, hb⟩
  have H2 := Lib.hid (LA.out.later hb)
  clear hct hb LA
  have hea := each_int _ 66 #[.pointer (some ⟨w.heap.size, 0, none⟩)] (enters_of Try.func66 (by kernel_rfl) rfl) _ _ w2 i4 (clo_load w.heap.size ra c.room.length rc (ts ++ ask) w2 (by have := H2.out.size; omega) (HD.out _ _ H2.out).2.2 (by omega))
  obtain ⟨a4, m4, rfl⟩ := i4.form
  have HEA := Lib.hid (show Calls Try.prog 35 #[.slice a4 (ts ++ ask).length m4, .func (.func 66) #[] #[.pointer (some ⟨w.heap.size, 0, none⟩)]] w2 fun e w' => e = .returned (.bool (rangeB c (ts ++ ask))) ∧ Below w2.heap.size w2 w' from hea)
  clear i4 hea
  have hrange : rangeB c (ts ++ ask) = true → ∀ j (h : j < ts.length), ∃ t : Nat, t < c.room.length ∧ ts[j] = (t : Int) := fun hr j hj => by
    unfold rangeB at hr
    rw [List.all_append, Bool.and_eq_true, List.all_eq_true] at hr
    have := hr.1 ts[j] (List.getElem_mem hj)
    simp only [inB, Bool.and_eq_true, decide_eq_true_eq] at this
    exact ⟨ts[j].toNat, by omega, by omega⟩
  have HRG := Lib.hid hrange
  clear hrange
  generalize (ts ++ ask).length = n4 at *
  go_wp2_with fail
  refine HEA.out.mono ?_
  rintro e w3 ⟨rfl, hb⟩
  have h3 := H2.out.later hb
  have H3 := Lib.hid h3
  clear hb HEA H2
  cases hrb : rangeB c (ts ++ ask) with
  | false =>
    have HE2 := Lib.hid (show le = 2 by rw [HE.out, if_pos hrb])
    have hcnt := h3.cnt
    have hres := h3.res
    clear h3
    rw [hrb] at *
    clear hrb
    go_wp2_with (first
      | (refine wo_load hcnt rfl rfl ?_)
      | (refine wo_store (f := fun _ => 0) hres rfl rfl rfl ?_)
      | (refine wl_load hcnt rfl rfl rfl ?_)
      | (refine wl_store (f := fun _ => 0) hres rfl rfl rfl rfl ?_))
    refine bodyPost_ret (v := .tuple #[lval fun _ => 0, .int .i64 2]) ?_ rfl ?_
    · exact load_ret w3 _ _ _ H3.out.res _ rfl
    · exact ⟨fun _ => 0, by rw [HE2.out], fun h => absurd (HE2.out.symm.trans h) (by decide), Below.setCells' _ _ H3.out.below (by omega)⟩
  | true =>
    have HE2 := Lib.hid (show le = if mayB c (ts.zip ds) = false then 47 else 0 by rw [HE.out, if_neg (by rw [hrb]; simp)])
    have HRN := Lib.hid (HRG.out hrb)
    clear h3 HE HRG
    rw [hrb] at *
    clear hrb
    go_wp2_with fail
    go_loopg [46] ts.length (fun gg s46 wr => ∃ (kk : Nat) (f : Nat → Int), kk ≤ ts.length ∧ ts.length - kk ≤ gg ∧ s46 = .int .i64 kk ∧ Aside (Ld w wr c f) ∧ Aside (∀ o, o < 256 → f o = loadN c ((ts.zip ds).take kk) o) ∧ Aside (∀ p ∈ (ts.zip ds).take kk, mayF c p.1 p.2 = true))
    case atStart => exact ⟨0, fun _ => 0, Nat.zero_le _, by omega, rfl, H3.out, fun o _ => rfl, fun p hp => by simp at hp⟩
    case round =>
      obtain ⟨kk, f, hkk, hg2, rfl, L, A, M⟩ := hrel
      by_cases hlt : kk < ts.length
      · have hltz : (kk : Int) < (ts.length : Int) := by omega
        have hk2 : kk < ds.length := by have := HH.out; omega
        have hkd : (kk : Int) < (ds.length : Int) := by omega
        obtain ⟨t, htr, htt⟩ := HRN.out kk hlt
        obtain ⟨b1, o1, p1, hs1, hb1, r1⟩ := (HI.out wr L.out.below).1.row hlt
        obtain ⟨b2, o2, p2, hs2, hb2, r2w⟩ := (HI.out w (Below.refl _ _)).2.1.row hk2
        simp only [Value.slice.injEq] at hs1 hs2
        obtain ⟨rfl, -, rfl⟩ := hs1
        obtain ⟨rfl, -, rfl⟩ := hs2
        rw [htt] at r1
        generalize hd : ds[kk] = d at r2w
        have R2 := Lib.hid (fun W (hW : Below w.heap.size w W) => (hW.cell (p := ⟨b2, o2 + kk, none⟩) hb2).trans r2w)
        clear r2w
        have r2 := R2.out wr L.out.below
        have D := Lib.hid hd
        have TT := Lib.hid htt
        clear hd htt
        obtain ⟨c0, c1, c2⟩ := HD.out _ _ L.out
        have hmay := HMAY.out (t : Int) d wr.drew ((L.out.later (Below.refl _ _).drew).cal)
        have HM := Lib.hid hmay
        clear hmay
        go_wp2_with fail
        go_still_tail 6, (by kernel_rfl)
        change wpList _ _ _ _ _ wr.drew
        go_wp2_with fail
        refine HM.out.mono ?_
        rintro e w4 ⟨rfl, hb⟩
        have L4 := (L.out.later (Below.refl _ _).drew).later hb
        have r2' := R2.out w4 L4.below
        clear hb HM r1 r2 c0 c1 c2
        have L5 := Lib.hid L4
        cases hm : mayF c (t : Int) d with
        | false =>
          have hcnt := L4.cnt
          have hres := L4.res
          have HE3 := Lib.hid (show le = 47 by
            rw [HE2.out, if_pos]
            unfold mayB
            rw [List.all_eq_false]
            refine ⟨(ts[kk], ds[kk]), ?_, ?_⟩
            · have : (ts.zip ds)[kk]'(by rw [List.length_zip]; omega) = (ts[kk], ds[kk]) := by simp
              rw [← this]
              exact List.getElem_mem _
            · show ¬ mayF c ts[kk] ds[kk] = true
              rw [TT.out, D.out, hm]
              decide)
          clear L4
          rw [hm] at *
          clear hm
          go_wp2_with (first
            | (refine wo_load hcnt rfl rfl ?_)
            | (refine wo_store (f := f) hres rfl rfl rfl ?_)
            | (refine wl_load hcnt rfl rfl rfl ?_)
            | (refine wl_store (f := f) hres rfl rfl rfl rfl ?_))
          refine bodyPost_ret (v := .tuple #[lval f, .int .i64 47]) ?_ rfl ?_
          · exact load_ret w4 _ _ _ L5.out.res _ rfl
          · exact ⟨f, by rw [HE3.out], fun h => absurd (HE3.out.symm.trans h) (by decide), Below.setCells' _ _ L5.out.below (by omega)⟩
        | true =>
          obtain ⟨k, hkw, hat⟩ := may_at hm
          have hk32 := HOK.out.wins
          have ht8 := HOK.out.room
          have hatc := HAT.out d w4.drew ((L4.later (Below.refl _ _).drew).cal)
          rw [hat] at hatc
          have HATC := Lib.hid hatc
          have HSL := Lib.hid (show slotOf c (ts[kk], ds[kk]) = ((k * 8 + t : Nat) : Int) by unfold slotOf; rw [D.out, TT.out, hat]; omega)
          have HMM := Lib.hid (show mayF c ts[kk] ds[kk] = true by rw [D.out, TT.out]; exact hm)
          obtain ⟨c0, c1, c2⟩ := HD.out _ _ L4
          clear L4 hatc hat
          rw [hm] at *
          clear hm
          go_wp2_with fail
          have lB : w.heap.size < w4.heap.size := by have := L5.out.size; omega
          have lb2 : b2 < w4.heap.size := by have := L5.out.size; omega
          have hK : Below w4.heap.size w4 w4.drew := (Below.refl _ _).drew
          refine wp_region_held_drew (S := fun w' => w'.cell? ⟨w.heap.size, 0, none⟩ = some (.slice wa c.wins.length wc) ∧ w'.cell? ⟨w.heap.size, 1, none⟩ = some (.slice ta c.team.length tc) ∧ w'.cell? ⟨w.heap.size, 2, none⟩ = some (.slice ra c.room.length rc) ∧ w'.cell? ⟨b2, o2 + kk, none⟩ = some (.int .i64 d)) (by kernel_rfl) ⟨(hK.cell (p := ⟨w.heap.size, 0, none⟩) lB).trans c0, (hK.cell (p := ⟨w.heap.size, 1, none⟩) lB).trans c1, (hK.cell (p := ⟨w.heap.size, 2, none⟩) lB).trans c2, (hK.cell (p := ⟨b2, o2 + kk, none⟩) lb2).trans r2'⟩ ?_
          intro hS
          refine wpAnyH_take (i := 0) (v := ?_) rfl (by kernel_rfl) (by kernel_rfl) (by kernel_rfl) (fun _ _ _ h => h) (Or.inl ⟨by rfl, ?_⟩) hS ?_
          rotate_left
          · rintro w' ⟨s0, s1, s2, s3⟩
            go_simp
            rfl
          go_simp
          refine wpAnyH_take (i := 1) (v := ?_) rfl (by kernel_rfl) (by kernel_rfl) (by kernel_rfl) (fun _ _ _ h => h) (Or.inl ⟨by rfl, ?_⟩) hS ?_
          rotate_left
          · rintro w' ⟨s0, s1, s2, s3⟩
            go_simp
            rfl
          go_simp
          refine wpAnyH_take (i := 2) (v := ?_) rfl (by kernel_rfl) (by kernel_rfl) (by kernel_rfl) (fun _ _ _ h => h) (Or.inl ⟨by rfl, ?_⟩) hS ?_
          rotate_left
          · rintro w' ⟨s0, s1, s2, s3⟩
            go_simp
            rfl
          go_simp
          refine wpAnyH_take (i := 3) (v := ?_) rfl (by kernel_rfl) (by kernel_rfl) (by kernel_rfl) (fun _ _ _ h => h) (Or.inl ⟨by rfl, ?_⟩) hS ?_
          rotate_left
          · rintro w' ⟨s0, s1, s2, s3⟩
            go_simp
            rfl
          go_simp
          refine wpAnyH_take (i := 4) (v := ?_) rfl (by kernel_rfl) (by kernel_rfl) (by kernel_rfl) (fun _ _ _ h => h) (Or.inl ⟨by rfl, ?_⟩) hS ?_
          rotate_left
          · rintro w' ⟨s0, s1, s2, s3⟩
            go_simp
            rfl
          go_simp
          refine wpAnyH_take (i := 6) (v := ?_) rfl (by kernel_rfl) (by kernel_rfl) (by kernel_rfl) (fun _ _ _ h => h) (Or.inl ⟨by rfl, ?_⟩) hS ?_
          rotate_left
          · rintro w' ⟨s0, s1, s2, s3⟩
            go_simp
            rfl
          go_simp
          refine wpAnyH_ready (rs := [5]) (by kernel_rfl) (by simp) ?_
          refine AllReadyH.cons rfl (fun K hKK => ?_) AllReadyH.nil
          go_simp
          refine (HATC.out).mono ?_
          rintro e w5 ⟨rfl, hb⟩
          have L6 := Lib.hid ((L5.out.later (Below.refl _ _).drew).later hb)
          replace hK := hK.trans (hb.mono hK.size)
          clear hb HATC
          go_simp
          refine hKK.out _ _ ⟨(hK.cell (p := ⟨w.heap.size, 0, none⟩) lB).trans c0, (hK.cell (p := ⟨w.heap.size, 1, none⟩) lB).trans c1, (hK.cell (p := ⟨w.heap.size, 2, none⟩) lB).trans c2, (hK.cell (p := ⟨b2, o2 + kk, none⟩) lb2).trans r2'⟩ (fun hS' => ?_)
          clear hKK hS
          have hS := hS'
          clear hS'
          have hq1 := L6.out.cnt (k * 8 + t) (by omega)
          rw [Nat.zero_add] at hq1
          obtain ⟨q1, q2⟩ := hq1
          have hx := A.out (k * 8 + t) (by omega)
          have hxl := loadN_le c ((ts.zip ds).take kk) (k * 8 + t)
          rw [← hx] at hxl
          have hlen : ((ts.zip ds).take kk).length ≤ 24 := by rw [List.length_take, List.length_zip]; omega
          have hwr : IntKind.i64.wrap (f (k * 8 + t) + 1) = f (k * 8 + t) + 1 := IntWalk.i64_in _ (by omega)
          have BUMP := Lib.hid (L6.out.bump (k * 8 + t) (f (k * 8 + t) + 1) (by omega))
          have REL := Lib.hid (show ∀ o, o < 256 → (fun i => if i = k * 8 + t then f (k * 8 + t) + 1 else f i) o = loadN c ((ts.zip ds).take (kk + 1)) o from fun o ho => by
            rw [zip_take_snoc hlt hk2, loadN_snoc, HSL.out]
            by_cases e : o = k * 8 + t
            · subst e
              simp only [if_pos, hx]
            · rw [if_neg (by omega)]
              simp only [if_neg e]
              exact A.out o ho)
          have MAY := Lib.hid (show ∀ p ∈ (ts.zip ds).take (kk + 1), mayF c p.1 p.2 = true from fun p hp => by
            rw [zip_take_snoc hlt hk2, List.mem_append, List.mem_singleton] at hp
            rcases hp with hp | rfl
            · exact M.out p hp
            · exact HMM.out)
          clear hx hxl hlen
          generalize f (k * 8 + t) = x at q1 q2 hwr BUMP REL
          have hki : (k : Int) < 32 := by omega
          have hk0 : (0 : Int) ≤ (k : Int) := by omega
          have hti : (t : Int) < 8 := by omega
          have ht0 : (0 : Int) ≤ (t : Int) := by omega
          refine wpAnyH_take (i := 7) (v := ?_) rfl (by kernel_rfl) (by kernel_rfl) (by kernel_rfl) (fun _ _ _ h => h) (Or.inl ⟨by rfl, ?_⟩) hS ?_
          rotate_left
          · rintro w' ⟨s0, s1, s2, s3⟩
            go_simp
            rfl
          go_simp
          refine wpAnyH_take (i := 8) (v := ?_) rfl (by kernel_rfl) (by kernel_rfl) (by kernel_rfl) (fun _ _ _ h => h) (Or.inl ⟨by rfl, ?_⟩) hS ?_
          rotate_left
          · rintro w' ⟨s0, s1, s2, s3⟩
            go_simp
            rfl
          go_simp
          refine wpAnyH_take (i := 11) (v := ?_) rfl (by kernel_rfl) (by kernel_rfl) (by kernel_rfl) (fun _ _ _ h => h) (Or.inl ⟨by rfl, ?_⟩) hS ?_
          rotate_left
          · rintro w' ⟨s0, s1, s2, s3⟩
            go_simp
            rfl
          go_simp
          refine wpAnyH_ready (rs := [9]) (by kernel_rfl) (by simp) ?_
          refine AllReadyH.cons rfl (fun K hKK => ?_) AllReadyH.nil
          go_simp
          refine hKK.out _ _ ⟨(hK.cell (p := ⟨w.heap.size, 0, none⟩) lB).trans c0, (hK.cell (p := ⟨w.heap.size, 1, none⟩) lB).trans c1, (hK.cell (p := ⟨w.heap.size, 2, none⟩) lB).trans c2, (hK.cell (p := ⟨b2, o2 + kk, none⟩) lb2).trans r2'⟩ (fun hS' => ?_)
          clear hKK hS
          have hS := hS'
          clear hS'
          refine wpAnyH_take (i := 10) (v := ?_) rfl (by kernel_rfl) (by kernel_rfl) (by kernel_rfl) (fun _ _ _ h => h) (Or.inl ⟨by rfl, ?_⟩) hS ?_
          rotate_left
          · rintro w' ⟨s0, s1, s2, s3⟩
            go_simp
            rfl
          go_simp
          refine wpAnyH_take (i := 12) (v := ?_) rfl (by kernel_rfl) (by kernel_rfl) (by kernel_rfl) (fun _ _ _ h => h) (Or.inl ⟨by rfl, ?_⟩) hS ?_
          rotate_left
          · rintro w' ⟨s0, s1, s2, s3⟩
            go_simp
            rfl
          go_simp
          refine wpAnyH_ready (rs := [13]) (by kernel_rfl) (by simp) ?_
          refine AllReadyH.cons rfl (fun K hKK => ?_) AllReadyH.nil
          go_simp
          refine hKK.out _ _ ⟨(by rw [World.cell?_setCell_other (h := by intro he; injection he with q1 q2 q3; omega)]; exact (hK.cell (p := ⟨w.heap.size, 0, none⟩) lB).trans c0), (by rw [World.cell?_setCell_other (h := by intro he; injection he with q1 q2 q3; omega)]; exact (hK.cell (p := ⟨w.heap.size, 1, none⟩) lB).trans c1), (by rw [World.cell?_setCell_other (h := by intro he; injection he with q1 q2 q3; omega)]; exact (hK.cell (p := ⟨w.heap.size, 2, none⟩) lB).trans c2), (by rw [World.cell?_setCell_other (h := by intro he; injection he with q1 q2 q3; omega)]; exact (hK.cell (p := ⟨b2, o2 + kk, none⟩) lb2).trans r2')⟩ (fun hS' => ?_)
          clear hKK hS hS'
          refine wpAnyH_done (by kernel_rfl) ?_ _
          clear lB lb2 hK c0 c1 c2 r2'
          go_wp2_with fail
          go_roundg (ts.length - (kk + 1))
          case measure => omega
          case rel => exact ⟨kk + 1, _, by omega, by omega, by go_num, BUMP.out, REL.out, MAY.out⟩
      · have hltz : ¬ (kk : Int) < (ts.length : Int) := by omega
        have hkn : kk = ts.length := by omega
        subst hkn
        have hcnt := L.out.cnt
        have hres := L.out.res
        have hall : (ts.zip ds).take ts.length = ts.zip ds := List.take_of_length_le (by rw [List.length_zip]; omega)
        rw [hall] at A M
        have HE3 := Lib.hid (show le = 0 by
          rw [HE2.out, if_neg]
          unfold mayB
          rw [List.all_eq_true.2 M.out]
          decide)
        clear hall
        go_wp2_with (first
          | (refine wo_load hcnt rfl rfl ?_)
          | (refine wo_store (f := f) hres rfl rfl rfl ?_)
          | (refine wl_load hcnt rfl rfl rfl ?_)
          | (refine wl_store (f := f) hres rfl rfl rfl rfl ?_))
        refine bodyPost_ret (v := .tuple #[lval f, .int .i64 0]) ?_ rfl ?_
        · exact load_ret wr _ _ _ L.out.res _ rfl
        · exact ⟨f, by rw [HE3.out], fun _ => A.out, Below.setCells' _ _ L.out.below (by omega)⟩
end Go.Proofs.Ytpbahffkhpfakaa

import Derived.Test.YtpbahffkhpfakaaWLd
namespace Go.Proofs.Ytpbahffkhpfakaa
open Go.RowKit
set_option linter.unusedSimpArgs false
set_option linter.unusedVariables false

/-! ## load -/

def rangeB (c : Cal) (l : List Int) : Bool := l.all fun n => inB n 0 ((c.room.length : Int) - 1)
def mayB (c : Cal) (ps : List (Int × Int)) : Bool := ps.all fun p => mayF c p.1 p.2
def loadE (c : Cal) (ts ds ask : List Int) : Int :=
  if checkF c c.team.length ≠ 0 then checkF c c.team.length
  else if ts.length ≠ ds.length then 1
  else if 24 < ts.length then 3
  else if rangeB c (ts ++ ask) = false then 2
  else if mayB c (ts.zip ds) = false then 47
  else 0
def slotOf (c : Cal) (p : Int × Int) : Int := atF c p.2 * 8 + p.1
def loadN (c : Cal) (ps : List (Int × Int)) (o : Nat) : Int := ((ps.filter fun p => decide (slotOf c p = (o : Int))).length : Nat)
def LoadOut (c : Cal) (ts ds ask : List Int) (w : World) (e : Ending) (w' : World) : Prop :=
  ∃ f : Nat → Int, e = .returned (.tuple #[lval f, .int .i64 (loadE c ts ds ask)]) ∧ (loadE c ts ds ask = 0 → ∀ o, o < 256 → f o = loadN c (ts.zip ds) o) ∧ Below w.heap.size w w'

set_option maxRecDepth 100000 in
set_option maxHeartbeats 4000000 in
theorem load_check (c : Cal) (v1 v2 v3 : Value) (ts ds ask : List Int) (w : World) (h : CalAt w c) (h0 : checkF c c.team.length ≠ 0) :
    Calls Try.prog 53 #[c.val, v1, v2, v3] w fun e w' => LoadOut c ts ds ask w e w' := by
  have HE := Lib.hid (show loadE c ts ds ask = checkF c c.team.length by unfold loadE; rw [if_pos h0])
  have HN := Lib.hid h0
  have H0 := Lib.hid (ld0 w c h)
  have HC := Lib.hid (fun W (hW : CalAt W c) => check_any c c.team.length W hW)
  obtain ⟨wa, wc, ta, tc, ra, rc, e1, e2, e3⟩ := h.forms
  have hq : (checkF c c.team.length == 0) = false := by simpa using h0
  clear h h0
  unfold LoadOut
  generalize checkF c c.team.length = z at *
  generalize loadE c ts ds ask = le at *
  generalize loadN c (ts.zip ds) = ln at *
  obtain ⟨ws, tm, rm, wv, tv, rv⟩ := c
  simp only at e1 e2 e3
  subst e1 e2 e3
  unfold Cal.val at *
  simp only at *
  go_enter Try.func53, Try.ntmps53
  go_wp2_with fail
  generalize (((w.alloc (.cells #[.slice wa ws.length wc, .slice ta tm.length tc, .slice ra rm.length rc] 25)).alloc (.cells Try.zeroCells76 76)).alloc (.cells Try.zeroCells76 76)) = W0 at *
  refine (HC.out _ H0.out.cal).mono ?_
  rintro e w1 ⟨rfl, hb⟩
  have h1 := H0.out.later hb
  have H1 := Lib.hid h1
  have hcnt := h1.cnt
  have hres := h1.res
  clear hb h1
  go_wp2_with (first
    | (refine wo_load hcnt rfl rfl ?_)
    | (refine wo_store (f := fun _ => 0) hres rfl rfl rfl ?_)
    | (refine wl_load hcnt rfl rfl rfl ?_)
    | (refine wl_store (f := fun _ => 0) hres rfl rfl rfl rfl ?_))
  refine bodyPost_ret (v := .tuple #[lval fun _ => 0, .int .i64 z]) ?_ rfl ?_
  · exact load_ret w1 _ _ _ H1.out.res _ rfl
  · exact ⟨fun _ => 0, by rw [HE.out], fun h => absurd (HE.out.symm.trans h) HN.out, Below.setCells' _ _ H1.out.below (by omega)⟩
end Go.Proofs.Ytpbahffkhpfakaa

namespace Go.Proofs.Ytpbahffkhpfakaa
open Go.RowKit
set_option linter.unusedSimpArgs false
set_option linter.unusedVariables false

theorem loadN_snoc (c : Cal) (ps : List (Int × Int)) (p : Int × Int) (o : Nat) : loadN c (ps ++ [p]) o = if slotOf c p = (o : Int) then loadN c ps o + 1 else loadN c ps o := by
  unfold loadN
  rw [List.filter_append, List.length_append]
  by_cases h : slotOf c p = (o : Int)
  · simp [h]
  · simp [h]
theorem loadN_le (c : Cal) (ps : List (Int × Int)) (o : Nat) : 0 ≤ loadN c ps o ∧ loadN c ps o ≤ (ps.length : Int) := by
  unfold loadN
  have := List.length_filter_le (fun p => decide (slotOf c p = (o : Int))) ps
  omega

structure Ok0 (c : Cal) : Prop where
  wins : c.wins.length ≤ 32
  room : c.room.length ≤ 8
theorem ok0_of {c : Cal} {n : Int} (h : checkF c n = 0) : Ok0 c := by
  unfold checkF at h
  by_cases h1 : 32 < c.wins.length ∨ 8 < c.room.length
  · rw [if_pos h1] at h; cases h
  · exact ⟨by omega, by omega⟩

theorem clo_load (B : Nat) (ra : Option Addr) (rn rc : Nat) (l : List Int) (w : World) (hB : B < w.heap.size) (hc : w.cell? ⟨B, 2, none⟩ = some (.slice ra rn rc)) (hr : (rn : Int) ≤ 9223372036854775807) :
    PredOn 66 #[.pointer (some ⟨B, 0, none⟩)] (Value.int .i64) (fun n => inB n 0 ((rn : Int) - 1)) l w := fun W x hx hb => by
  have hc2 : W.cell? ⟨B, 2, none⟩ = some (.slice ra rn rc) := (hb.cell (p := ⟨B, 2, none⟩) hB).trans hc
  have hw := i64_len rn hr
  clear hc hb hx
  show Calls Try.prog 66 #[.int .i64 x, .pointer (some ⟨B, 0, none⟩)] W fun e w' => e = .returned (.bool (inB x 0 ((rn : Int) - 1))) ∧ Below W.heap.size W w'
  go_enter Try.func66, Try.ntmps66
  go_wp2_with (go_at_call 34; refine (in_any _ _ _ _).mono ?_; rintro e w' ⟨rfl, rfl⟩)
  go_ret
  exact ⟨by first | rfl | simp_all, Below.refl _ _⟩

set_option maxRecDepth 100000 in
set_option maxHeartbeats 8000000 in
theorem load_form (c : Cal) (v1 v2 v3 : Value) (ts ds ask : List Int) (w : World) (h : CalAt w c) (h1 : IntsAt w v1 ts) (h2 : IntsAt w v2 ds) (h0 : checkF c c.team.length = 0) (hbad : ts.length ≠ ds.length ∨ 24 < ts.length) :
    Calls Try.prog 53 #[c.val, v1, v2, v3] w fun e w' => LoadOut c ts ds ask w e w' := by
  have HE := Lib.hid (show loadE c ts ds ask = if ts.length ≠ ds.length then 1 else 3 by
    unfold loadE
    rw [if_neg (by rw [h0]; simp)]
    by_cases hn : ts.length ≠ ds.length
    · rw [if_pos hn, if_pos hn]
    · rw [if_neg hn, if_neg hn, if_pos (by omega)])
  have H0 := Lib.hid (ld0 w c h)
  have HC := Lib.hid (fun W (hW : CalAt W c) => check_any c c.team.length W hW)
  rw [h0] at HC
  have hl1 := h1.1
  have hl2 := h2.1
  obtain ⟨wa, wc, ta, tc, ra, rc, e1, e2, e3⟩ := h.forms
  obtain ⟨a1, m1, rfl⟩ := h1.form
  obtain ⟨a2, m2, rfl⟩ := h2.form
  clear h h1 h2 h0
  unfold LoadOut
  generalize loadE c ts ds ask = le at *
  generalize loadN c (ts.zip ds) = ln at *
  obtain ⟨ws, tm, rm, wv, tv, rv⟩ := c
  simp only at e1 e2 e3
  subst e1 e2 e3
  unfold Cal.val at *
  simp only at *
  generalize ts.length = n1 at *
  generalize ds.length = n2 at *
  go_enter Try.func53, Try.ntmps53
  go_wp2_with fail
  generalize (((w.alloc (.cells #[.slice wa ws.length wc, .slice ta tm.length tc, .slice ra rm.length rc] 25)).alloc (.cells Try.zeroCells76 76)).alloc (.cells Try.zeroCells76 76)) = W0 at *
  refine (HC.out _ H0.out.cal).mono ?_
  rintro e w1 ⟨rfl, hb⟩
  have h1 := H0.out.later hb
  have H1 := Lib.hid h1
  have hcnt := h1.cnt
  have hres := h1.res
  clear hb h1
  by_cases hn : n1 = n2
  · subst hn
    have hq : ((n1 : Int) == (n1 : Int)) = true := by simp
    have hg : (24 : Int) < (n1 : Int) := by omega
    have HE2 := Lib.hid (show le = 3 by rw [HE.out]; simp)
    clear hbad
    go_wp2_with (first
      | (refine wo_load hcnt rfl rfl ?_)
      | (refine wo_store (f := fun _ => 0) hres rfl rfl rfl ?_)
      | (refine wl_load hcnt rfl rfl rfl ?_)
      | (refine wl_store (f := fun _ => 0) hres rfl rfl rfl rfl ?_))
    refine bodyPost_ret (v := .tuple #[lval fun _ => 0, .int .i64 3]) ?_ rfl ?_
    · exact load_ret w1 _ _ _ H1.out.res _ rfl
    · exact ⟨fun _ => 0, by rw [HE2.out], fun h => absurd (HE2.out.symm.trans h) (by decide), Below.setCells' _ _ H1.out.below (by omega)⟩
  · have hq : ((n1 : Int) == (n2 : Int)) = false := by simp; omega
    have HE2 := Lib.hid (show le = 1 by rw [HE.out, if_pos hn])
    clear hbad
    go_wp2_with (first
      | (refine wo_load hcnt rfl rfl ?_)
      | (refine wo_store (f := fun _ => 0) hres rfl rfl rfl ?_)
      | (refine wl_load hcnt rfl rfl rfl ?_)
      | (refine wl_store (f := fun _ => 0) hres rfl rfl rfl rfl ?_))
    refine bodyPost_ret (v := .tuple #[lval fun _ => 0, .int .i64 1]) ?_ rfl ?_
    · exact load_ret w1 _ _ _ H1.out.res _ rfl
    · exact ⟨fun _ => 0, by rw [HE2.out], fun h => absurd (HE2.out.symm.trans h) (by decide), Below.setCells' _ _ H1.out.below (by omega)⟩
end Go.Proofs.Ytpbahffkhpfakaa

namespace Go.Proofs.Ytpbahffkhpfakaa
open Go.RowKit
set_option linter.unusedSimpArgs false
set_option linter.unusedVariables false

theorem may_at {c : Cal} {t d : Int} (h : mayF c t d = true) : ∃ k : Nat, k < c.wins.length ∧ atF c d = (k : Int) := by
  unfold mayF at h
  unfold atF
  rcases firstI_cases (hasB d) c.wins with ⟨k, hk, e, _⟩ | ⟨e, hm⟩
  · exact ⟨k, hk, e⟩
  · rw [firstI_none hm] at h
    cases h
theorem zip_take_snoc {ts ds : List Int} {k : Nat} (h1 : k < ts.length) (h2 : k < ds.length) : (ts.zip ds).take (k + 1) = (ts.zip ds).take k ++ [(ts[k], ds[k])] := by
  rw [List.take_add_one, List.getElem?_eq_getElem (by rw [List.length_zip]; omega)]
  simp

set_option maxRecDepth 100000 in
set_option maxHeartbeats 16000000 in
theorem load_main (c : Cal) (v1 v2 v3 : Value) (ts ds ask : List Int) (w : World) (h : CalAt w c) (h1 : IntsAt w v1 ts) (h2 : IntsAt w v2 ds) (h3 : IntsAt w v3 ask) (n1 : NilOk v1) (n3 : NilOk v3) (ha : ask.length ≤ 800) (h0 : checkF c c.team.length = 0) (hn : ts.length = ds.length) (h24 : ts.length ≤ 24) :
    Calls Try.prog 53 #[c.val, v1, v2, v3] w fun e w' => LoadOut c ts ds ask w e w' := by
  have HE := Lib.hid (show loadE c ts ds ask = if rangeB c (ts ++ ask) = false then 2 else if mayB c (ts.zip ds) = false then 47 else 0 by
    unfold loadE
    rw [if_neg (by rw [h0]; simp), if_neg (by omega), if_neg (by omega)])
  have HOK := Lib.hid (ok0_of h0)
  have H0 := Lib.hid (ld0 w c h)
  have HC := Lib.hid (fun W (hW : CalAt W c) => check_any c c.team.length W hW)
  rw [h0] at HC
  have HAT := Lib.hid (fun day W (hW : CalAt W c) => at_cal c day W hW)
  have HMAY := Lib.hid (fun team day W (hW : CalAt W c) => may_any c team day W hW)
  have HI := Lib.hid (fun W (hW : Below w.heap.size w W) => (⟨h1.below hW, h2.below hW, h3.below hW⟩ : IntsAt W v1 ts ∧ IntsAt W v2 ds ∧ IntsAt W v3 ask))
  have N1 := Lib.hid n1
  have N3 := Lib.hid n3
  have hl1 := h1.1
  have hl3 := h3.1
  have hrl := h.room.1
  have hmf : ∀ (fn : Fn) (first cap : Array Value) (w : World), (Instr.makeFunc fn first cap).run Try.prog w = .ok (.func fn first cap) w := fun _ _ _ _ => rfl
  obtain ⟨wa, wc, ta, tc, ra, rc, e1, e2, e3⟩ := h.forms
  obtain ⟨a1, m1, rfl⟩ := h1.form
  obtain ⟨a2, m2, rfl⟩ := h2.form
  obtain ⟨a3, m3, rfl⟩ := h3.form
  have hv : c.val = .agg #[.slice wa c.wins.length wc, .slice ta c.team.length tc, .slice ra c.room.length rc] := by unfold Cal.val; rw [e1, e2, e3]
  rw [hv] at HC HAT HMAY ⊢
  rw [e1, e2, e3] at H0
  have HD := Lib.hid (fun (W : World) (f : Nat → Int) (hL : Ld w W c f) => show W.cell? ⟨w.heap.size, 0, none⟩ = some (.slice wa c.wins.length wc) ∧ W.cell? ⟨w.heap.size, 1, none⟩ = some (.slice ta c.team.length tc) ∧ W.cell? ⟨w.heap.size, 2, none⟩ = some (.slice ra c.room.length rc) from ⟨by rw [← e1]; exact hL.d0, by rw [← e2]; exact hL.d1, by rw [← e3]; exact hL.d2⟩)
  clear hv e1 e2 e3
  have HH := Lib.hid hn
  have HA := Lib.hid ha
  clear h h1 h2 h3 h0 n1 n3 ha
  unfold LoadOut
  generalize loadE c ts ds ask = le at *
  have hq : ((ts.length : Int) == (ds.length : Int)) = true := by simp; omega
  have hg : ¬ (24 : Int) < (ts.length : Int) := by omega
  clear hn
  go_enter Try.func53, Try.ntmps53
  go_wp2_with fail
  generalize (((w.alloc (.cells #[.slice wa c.wins.length wc, .slice ta c.team.length tc, .slice ra c.room.length rc] 25)).alloc (.cells Try.zeroCells76 76)).alloc (.cells Try.zeroCells76 76)) = W0 at *
  refine (HC.out _ H0.out.cal).mono ?_
  rintro e w1 ⟨rfl, hb⟩
  have H1 := Lib.hid (H0.out.later hb)
  clear hb H0 HC
  go_wp2_with fail
  have hbA : Below w1.heap.size w1 (w1.alloc (.cells #[.slice a1 ts.length m1, .slice a3 ask.length m3] 22)) := (Below.refl _ _).alloc (Nat.le_refl _) _
  have LA := Lib.hid (H1.out.later hbA)
  have hiA := HI.out _ LA.out.below
  have hct := concat_int w1.heap.size _ _ ts ask (w1.alloc (.cells #[.slice a1 ts.length m1, .slice a3 ask.length m3] 22)) (by simp) (by simp) (by simp) hiA.1 hiA.2.2 N1.out N3.out (by have := HA.out; omega)
  clear hiA hbA
  refine hct.mono ?_
  rintro e w2 ⟨v4, rfl, i4, hb⟩
  have H2 := Lib.hid (LA.out.later hb)
  clear hct hb LA
  have hea := each_int _ 66 #[.pointer (some ⟨w.heap.size, 0, none⟩)] (enters_of Try.func66 (by kernel_rfl) rfl) _ _ w2 i4 (clo_load w.heap.size ra c.room.length rc (ts ++ ask) w2 (by have := H2.out.size; omega) (HD.out _ _ H2.out).2.2 (by omega))
  obtain ⟨a4, m4, rfl⟩ := i4.form
  have HEA := Lib.hid (show Calls Try.prog 35 #[.slice a4 (ts ++ ask).length m4, .func (.func 66) #[] #[.pointer (some ⟨w.heap.size, 0, none⟩)]] w2 fun e w' => e = .returned (.bool (rangeB c (ts ++ ask))) ∧ Below w2.heap.size w2 w' from hea)
  clear i4 hea
  have hrange : rangeB c (ts ++ ask) = true → ∀ j (h : j < ts.length), ∃ t : Nat, t < c.room.length ∧ ts[j] = (t : Int) := fun hr j hj => by
    unfold rangeB at hr
    rw [List.all_append, Bool.and_eq_true, List.all_eq_true] at hr
    have := hr.1 ts[j] (List.getElem_mem hj)
    simp only [inB, Bool.and_eq_true, decide_eq_true_eq] at this
    exact ⟨ts[j].toNat, by omega, by omega⟩
  have HRG := Lib.hid hrange
  clear hrange
  generalize (ts ++ ask).length = n4 at *
  go_wp2_with fail
  refine HEA.out.mono ?_
  rintro e w3 ⟨rfl, hb⟩
  have h3 := H2.out.later hb
  have H3 := Lib.hid h3
  clear hb HEA H2
  cases hrb : rangeB c (ts ++ ask) with
  | false =>
    have HE2 := Lib.hid (show le = 2 by rw [HE.out, if_pos hrb])
    have hcnt := h3.cnt
    have hres := h3.res
    clear h3
    rw [hrb] at *
    clear hrb
    go_wp2_with (first
      | (refine wo_load hcnt rfl rfl ?_)
      | (refine wo_store (f := fun _ => 0) hres rfl rfl rfl ?_)
      | (refine wl_load hcnt rfl rfl rfl ?_)
      | (refine wl_store (f := fun _ => 0) hres rfl rfl rfl rfl ?_))
    refine bodyPost_ret (v := .tuple #[lval fun _ => 0, .int .i64 2]) ?_ rfl ?_
    · exact load_ret w3 _ _ _ H3.out.res _ rfl
    · exact ⟨fun _ => 0, by rw [HE2.out], fun h => absurd (HE2.out.symm.trans h) (by decide), Below.setCells' _ _ H3.out.below (by omega)⟩
  | true =>
    have HE2 := Lib.hid (show le = if mayB c (ts.zip ds) = false then 47 else 0 by rw [HE.out, if_neg (by rw [hrb]; simp)])
    have HRN := Lib.hid (HRG.out hrb)
    clear h3 HE HRG
    rw [hrb] at *
    clear hrb
    go_wp2_with fail
    go_loopg [46] ts.length (fun gg s46 wr => ∃ (kk : Nat) (f : Nat → Int), kk ≤ ts.length ∧ ts.length - kk ≤ gg ∧ s46 = .int .i64 kk ∧ Aside (Ld w wr c f) ∧ Aside (∀ o, o < 256 → f o = loadN c ((ts.zip ds).take kk) o) ∧ Aside (∀ p ∈ (ts.zip ds).take kk, mayF c p.1 p.2 = true))
    case atStart => exact ⟨0, fun _ => 0, Nat.zero_le _, by omega, rfl, H3.out, fun o _ => rfl, fun p hp => by simp at hp⟩
    case round =>
      obtain ⟨kk, f, hkk, hg2, rfl, L, A, M⟩ := hrel
      by_cases hlt : kk < ts.length
      · have hltz : (kk : Int) < (ts.length : Int) := by omega
        have hk2 : kk < ds.length := by have := HH.out; omega
        have hkd : (kk : Int) < (ds.length : Int) := by omega
        obtain ⟨t, htr, htt⟩ := HRN.out kk hlt
        obtain ⟨b1, o1, p1, hs1, hb1, r1⟩ := (HI.out wr L.out.below).1.row hlt
        obtain ⟨b2, o2, p2, hs2, hb2, r2w⟩ := (HI.out w (Below.refl _ _)).2.1.row hk2
        simp only [Value.slice.injEq] at hs1 hs2
        obtain ⟨rfl, -, rfl⟩ := hs1
        obtain ⟨rfl, -, rfl⟩ := hs2
        rw [htt] at r1
        generalize hd : ds[kk] = d at r2w
        have R2 := Lib.hid (fun W (hW : Below w.heap.size w W) => (hW.cell (p := ⟨b2, o2 + kk, none⟩) hb2).trans r2w)
        clear r2w
        have r2 := R2.out wr L.out.below
        have D := Lib.hid hd
        have TT := Lib.hid htt
        clear hd htt
        obtain ⟨c0, c1, c2⟩ := HD.out _ _ L.out
        have hmay := HMAY.out (t : Int) d wr.drew ((L.out.later (Below.refl _ _).drew).cal)
        have HM := Lib.hid hmay
        clear hmay
        go_wp2_with fail
        go_still_tail 6, (by kernel_rfl)
        change wpList _ _ _ _ _ wr.drew
        go_wp2_with fail
        refine HM.out.mono ?_
        rintro e w4 ⟨rfl, hb⟩
        have L4 := (L.out.later (Below.refl _ _).drew).later hb
        have r2' := R2.out w4 L4.below
        clear hb HM r1 r2 c0 c1 c2
        have L5 := Lib.hid L4
        cases hm : mayF c (t : Int) d with
        | false =>
          have hcnt := L4.cnt
          have hres := L4.res
          have HE3 := Lib.hid (show le = 47 by
            rw [HE2.out, if_pos]
            unfold mayB
            rw [List.all_eq_false]
            refine ⟨(ts[kk], ds[kk]), ?_, ?_⟩
            · have : (ts.zip ds)[kk]'(by rw [List.length_zip]; omega) = (ts[kk], ds[kk]) := by simp
              rw [← this]
              exact List.getElem_mem _
            · show ¬ mayF c ts[kk] ds[kk] = true
              rw [TT.out, D.out, hm]
              decide)
          clear L4
          rw [hm] at *
          clear hm
          go_wp2_with (first
            | (refine wo_load hcnt rfl rfl ?_)
            | (refine wo_store (f := f) hres rfl rfl rfl ?_)
            | (refine wl_load hcnt rfl rfl rfl ?_)
            | (refine wl_store (f := f) hres rfl rfl rfl rfl ?_))
          refine bodyPost_ret (v := .tuple #[lval f, .int .i64 47]) ?_ rfl ?_
          · exact load_ret w4 _ _ _ L5.out.res _ rfl
          · exact ⟨f, by rw [HE3.out], fun h => absurd (HE3.out.symm.trans h) (by decide), Below.setCells' _ _ L5.out.below (by omega)⟩
        | true =>
          obtain ⟨k, hkw, hat⟩ := may_at hm
          have hk32 := HOK.out.wins
          have ht8 := HOK.out.room
          have hatc := HAT.out d w4.drew ((L4.later (Below.refl _ _).drew).cal)
          rw [hat] at hatc
          have HATC := Lib.hid hatc
          have HSL := Lib.hid (show slotOf c (ts[kk], ds[kk]) = ((k * 8 + t : Nat) : Int) by unfold slotOf; rw [D.out, TT.out, hat]; omega)
          have HMM := Lib.hid (show mayF c ts[kk] ds[kk] = true by rw [D.out, TT.out]; exact hm)
          obtain ⟨c0, c1, c2⟩ := HD.out _ _ L4
          clear L4 hatc hat
          rw [hm] at *
          clear hm
          go_wp2_with fail
          have lB : w.heap.size < w4.heap.size := by have := L5.out.size; omega
          have lb2 : b2 < w4.heap.size := by have := L5.out.size; omega
          have hK : Below w4.heap.size w4 w4.drew := (Below.refl _ _).drew
          refine wp_region_held_drew (S := fun w' => w'.cell? ⟨w.heap.size, 0, none⟩ = some (.slice wa c.wins.length wc) ∧ w'.cell? ⟨w.heap.size, 1, none⟩ = some (.slice ta c.team.length tc) ∧ w'.cell? ⟨w.heap.size, 2, none⟩ = some (.slice ra c.room.length rc) ∧ w'.cell? ⟨b2, o2 + kk, none⟩ = some (.int .i64 d)) (by kernel_rfl) ⟨(hK.cell (p := ⟨w.heap.size, 0, none⟩) lB).trans c0, (hK.cell (p := ⟨w.heap.size, 1, none⟩) lB).trans c1, (hK.cell (p := ⟨w.heap.size, 2, none⟩) lB).trans c2, (hK.cell (p := ⟨b2, o2 + kk, none⟩) lb2).trans r2'⟩ ?_
          intro hS
          refine wpAnyH_take (i := 0) (v := ?_) rfl (by kernel_rfl) (by kernel_rfl) (by kernel_rfl) (fun _ _ _ h => h) (Or.inl ⟨by rfl, ?_⟩) hS ?_
          rotate_left
          · rintro w' ⟨s0, s1, s2, s3⟩
            go_simp
            rfl
          go_simp
          refine wpAnyH_take (i := 1) (v := ?_) rfl (by kernel_rfl) (by kernel_rfl) (by kernel_rfl) (fun _ _ _ h => h) (Or.inl ⟨by rfl, ?_⟩) hS ?_
          rotate_left
          · rintro w' ⟨s0, s1, s2, s3⟩
            go_simp
            rfl
          go_simp
          refine wpAnyH_take (i := 2) (v := ?_) rfl (by kernel_rfl) (by kernel_rfl) (by kernel_rfl) (fun _ _ _ h => h) (Or.inl ⟨by rfl, ?_⟩) hS ?_
          rotate_left
          · rintro w' ⟨s0, s1, s2, s3⟩
            go_simp
            rfl
          go_simp
          refine wpAnyH_take (i := 3) (v := ?_) rfl (by kernel_rfl) (by kernel_rfl) (by kernel_rfl) (fun _ _ _ h => h) (Or.inl ⟨by rfl, ?_⟩) hS ?_
          rotate_left
          · rintro w' ⟨s0, s1, s2, s3⟩
            go_simp
            rfl
          go_simp
          refine wpAnyH_take (i := 4) (v := ?_) rfl (by kernel_rfl) (by kernel_rfl) (by kernel_rfl) (fun _ _ _ h => h) (Or.inl ⟨by rfl, ?_⟩) hS ?_
          rotate_left
          · rintro w' ⟨s0, s1, s2, s3⟩
            go_simp
            rfl
          go_simp
          refine wpAnyH_take (i := 6) (v := ?_) rfl (by kernel_rfl) (by kernel_rfl) (by kernel_rfl) (fun _ _ _ h => h) (Or.inl ⟨by rfl, ?_⟩) hS ?_
          rotate_left
          · rintro w' ⟨s0, s1, s2, s3⟩
            go_simp
            rfl
          go_simp
          refine wpAnyH_ready (rs := [5]) (by kernel_rfl) (by simp) ?_
          refine AllReadyH.cons rfl (fun K hKK => ?_) AllReadyH.nil
          go_simp
          refine (HATC.out).mono ?_
          rintro e w5 ⟨rfl, hb⟩
          have L6 := Lib.hid ((L5.out.later (Below.refl _ _).drew).later hb)
          replace hK := hK.trans (hb.mono hK.size)
          clear hb HATC
          go_simp
          refine hKK.out _ _ ⟨(hK.cell (p := ⟨w.heap.size, 0, none⟩) lB).trans c0, (hK.cell (p := ⟨w.heap.size, 1, none⟩) lB).trans c1, (hK.cell (p := ⟨w.heap.size, 2, none⟩) lB).trans c2, (hK.cell (p := ⟨b2, o2 + kk, none⟩) lb2).trans r2'⟩ (fun hS' => ?_)
          clear hKK hS
          have hS := hS'
          clear hS'
          have hq1 := L6.out.cnt (k * 8 + t) (by omega)
          rw [Nat.zero_add] at hq1
          obtain ⟨q1, q2⟩ := hq1
          have hx := A.out (k * 8 + t) (by omega)
          have hxl := loadN_le c ((ts.zip ds).take kk) (k * 8 + t)
          rw [← hx] at hxl
          have hlen : ((ts.zip ds).take kk).length ≤ 24 := by rw [List.length_take, List.length_zip]; omega
          have hwr : IntKind.i64.wrap (f (k * 8 + t) + 1) = f (k * 8 + t) + 1 := IntWalk.i64_in _ (by omega)
          have BUMP := Lib.hid (L6.out.bump (k * 8 + t) (f (k * 8 + t) + 1) (by omega))
          have REL := Lib.hid (show ∀ o, o < 256 → (fun i => if i = k * 8 + t then f (k * 8 + t) + 1 else f i) o = loadN c ((ts.zip ds).take (kk + 1)) o from fun o ho => by
            rw [zip_take_snoc hlt hk2, loadN_snoc, HSL.out]
            by_cases e : o = k * 8 + t
            · subst e
              simp only [if_pos, hx]
            · rw [if_neg (by omega)]
              simp only [if_neg e]
              exact A.out o ho)
          have MAY := Lib.hid (show ∀ p ∈ (ts.zip ds).take (kk + 1), mayF c p.1 p.2 = true from fun p hp => by
            rw [zip_take_snoc hlt hk2, List.mem_append, List.mem_singleton] at hp
            rcases hp with hp | rfl
            · exact M.out p hp
            · exact HMM.out)
          clear hx hxl hlen
          generalize f (k * 8 + t) = x at q1 q2 hwr BUMP REL
          have hki : (k : Int) < 32 := by omega
          have hk0 : (0 : Int) ≤ (k : Int) := by omega
          have hti : (t : Int) < 8 := by omega
          have ht0 : (0 : Int) ≤ (t : Int) := by omega
          refine wpAnyH_take (i := 7) (v := ?_) rfl (by kernel_rfl) (by kernel_rfl) (by kernel_rfl) (fun _ _ _ h => h) (Or.inl ⟨by rfl, ?_⟩) hS ?_
          rotate_left
          · rintro w' ⟨s0, s1, s2, s3⟩
            go_simp
            rfl
          go_simp
          refine wpAnyH_take (i := 8) (v := ?_) rfl (by kernel_rfl) (by kernel_rfl) (by kernel_rfl) (fun _ _ _ h => h) (Or.inl ⟨by rfl, ?_⟩) hS ?_
          rotate_left
          · rintro w' ⟨s0, s1, s2, s3⟩
            go_simp
            rfl
          go_simp
          refine wpAnyH_take (i := 11) (v := ?_) rfl (by kernel_rfl) (by kernel_rfl) (by kernel_rfl) (fun _ _ _ h => h) (Or.inl ⟨by rfl, ?_⟩) hS ?_
          rotate_left
          · rintro w' ⟨s0, s1, s2, s3⟩
            go_simp
            rfl
          go_simp
          refine wpAnyH_ready (rs := [9]) (by kernel_rfl) (by simp) ?_
          refine AllReadyH.cons rfl (fun K hKK => ?_) AllReadyH.nil
          go_simp
          refine hKK.out _ _ ⟨(hK.cell (p := ⟨w.heap.size, 0, none⟩) lB).trans c0, (hK.cell (p := ⟨w.heap.size, 1, none⟩) lB).trans c1, (hK.cell (p := ⟨w.heap.size, 2, none⟩) lB).trans c2, (hK.cell (p := ⟨b2, o2 + kk, none⟩) lb2).trans r2'⟩ (fun hS' => ?_)
          clear hKK hS
          have hS := hS'
          clear hS'
          refine wpAnyH_take (i := 10) (v := ?_) rfl (by kernel_rfl) (by kernel_rfl) (by kernel_rfl) (fun _ _ _ h => h) (Or.inl ⟨by rfl, ?_⟩) hS ?_
          rotate_left
          · rintro w' ⟨s0, s1, s2, s3⟩
            go_simp
            rfl
          go_simp
          refine wpAnyH_take (i := 12) (v := ?_) rfl (by kernel_rfl) (by kernel_rfl) (by kernel_rfl) (fun _ _ _ h => h) (Or.inl ⟨by rfl, ?_⟩) hS ?_
          rotate_left
          · rintro w' ⟨s0, s1, s2, s3⟩
            go_simp
            rfl
          go_simp
          refine wpAnyH_ready (rs := [13]) (by kernel_rfl) (by simp) ?_
          refine AllReadyH.cons rfl (fun K hKK => ?_) AllReadyH.nil
          go_simp
          refine hKK.out _ _ ⟨(by rw [World.cell?_setCell_other (h := by intro he; injection he with q1 q2 q3; omega)]; exact (hK.cell (p := ⟨w.heap.size, 0, none⟩) lB).trans c0), (by rw [World.cell?_setCell_other (h := by intro he; injection he with q1 q2 q3; omega)]; exact (hK.cell (p := ⟨w.heap.size, 1, none⟩) lB).trans c1), (by rw [World.cell?_setCell_other (h := by intro he; injection he with q1 q2 q3; omega)]; exact (hK.cell (p := ⟨w.heap.size, 2, none⟩) lB).trans c2), (by rw [World.cell?_setCell_other (h := by intro he; injection he with q1 q2 q3; omega)]; exact (hK.cell (p := ⟨b2, o2 + kk, none⟩) lb2).trans r2')⟩ (fun hS' => ?_)
          clear hKK hS hS'
          refine wpAnyH_done (by kernel_rfl) ?_ _
          clear lB lb2 hK c0 c1 c2 r2'
          go_wp2_with fail
          go_roundg (ts.length - (kk + 1))
          case measure => omega
          case rel => exact ⟨kk + 1, _, by omega, by omega, by go_num, BUMP.out, REL.out, MAY.out⟩
      · have hltz : ¬ (kk : Int) < (ts.length : Int) := by omega
        have hkn : kk = ts.length := by omega
        subst hkn
        have hcnt := L.out.cnt
        have hres := L.out.res
        have hall : (ts.zip ds).take ts.length = ts.zip ds := List.take_of_length_le (by rw [List.length_zip]; omega)
        rw [hall] at A M
        have HE3 := Lib.hid (show le = 0 by
          rw [HE2.out, if_neg]
          unfold mayB
          rw [List.all_eq_true.2 M.out]
          decide)
        clear hall
        go_wp2_with (first
          | (refine wo_load hcnt rfl rfl ?_)
          | (refine wo_store (f := f) hres rfl rfl rfl ?_)
          | (refine wl_load hcnt rfl rfl rfl ?_)
          | (refine wl_store (f := f) hres rfl rfl rfl rfl ?_))
        refine bodyPost_ret (v := .tuple #[lval f, .int .i64 0]) ?_ rfl ?_
        · exact load_ret wr _ _ _ L.out.res _ rfl
        · exact ⟨f, by rw [HE3.out], fun _ => A.out, Below.setCells' _ _ L.out.below (by omega)⟩
end Go.Proofs.Ytpbahffkhpfakaa


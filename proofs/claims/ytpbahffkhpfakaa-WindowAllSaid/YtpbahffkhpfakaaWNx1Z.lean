import Derived.Test.YtpbahffkhpfakaaWAwkZ
namespace Go.Proofs.Ytpbahffkhpfakaa
open Go.RowKit
set_option linter.unusedSimpArgs false
set_option linter.unusedVariables false

/-! ## May, Next, at a calendar without an error and a team that it has -/

set_option maxRecDepth 100000 in
set_option maxHeartbeats 4000000 in
theorem checkTeam_ok (c : Cal) (t : Int) (w : World) (h : CalAt w c) (h0 : checkF c c.team.length = 0) (ht : 0 ≤ t ∧ t < (c.room.length : Int)) :
    Calls Try.prog 46 #[c.val, .int .i64 t] w fun e w' => e = .returned (.int .i64 0) ∧ Below w.heap.size w w' := by
  have H0 := Lib.hid (box w c h)
  have HC := Lib.hid (fun W (hW : CalAt W c) => check_any c c.team.length W hW)
  rw [h0] at HC
  have hr8 := (ok0_of h0).room
  obtain ⟨wa, wc, ta, tc, ra, rc, e1, e2, e3⟩ := h.forms
  have hv : c.val = .agg #[.slice wa c.wins.length wc, .slice ta c.team.length tc, .slice ra c.room.length rc] := by unfold Cal.val; rw [e1, e2, e3]
  rw [hv] at HC ⊢
  rw [e1, e2, e3] at H0
  have HD := Lib.hid (fun (W : World) (hL : Box w W w.heap.size c) => show W.cell? ⟨w.heap.size, 0, none⟩ = some (.slice wa c.wins.length wc) ∧ W.cell? ⟨w.heap.size, 1, none⟩ = some (.slice ta c.team.length tc) ∧ W.cell? ⟨w.heap.size, 2, none⟩ = some (.slice ra c.room.length rc) from ⟨by rw [← e1]; exact hL.d0, by rw [← e2]; exact hL.d1, by rw [← e3]; exact hL.d2⟩)
  clear h hv e1 e2 e3 h0
  go_enter Try.func46, Try.ntmps46
  go_wp2_with fail
  generalize w.alloc (.cells #[.slice wa c.wins.length wc, .slice ta c.team.length tc, .slice ra c.room.length rc] 25) = W0 at *
  refine (HC.out _ H0.out.cal).mono ?_
  rintro e w1 ⟨rfl, hb⟩
  have H1 := Lib.hid (H0.out.later hb)
  have hd := HD.out _ H1.out
  have hw8 : wrap64 ((c.room.length : Int) - 1) = (c.room.length : Int) - 1 := by unfold wrap64; omega
  have HIN := Lib.hid (show inB t 0 ((c.room.length : Int) - 1) = true by unfold inB; simp; omega)
  clear hb
  go_wp2_with fail
  refine (in_any t 0 ((c.room.length : Int) - 1) w1).mono ?_
  rintro e w2 ⟨rfl, hb⟩
  rw [HIN.out]
  subst hb
  go_wp2_with fail
  go_ret
  exact ⟨rfl, H1.out.below⟩

set_option maxRecDepth 100000 in
set_option maxHeartbeats 4000000 in
theorem may_ok (c : Cal) (t d : Int) (w : World) (h : CalAt w c) (h0 : checkF c c.team.length = 0) (ht : 0 ≤ t ∧ t < (c.room.length : Int)) :
    Calls Try.prog 19 #[c.val, .int .i64 t, .int .i64 d] w fun e w' => e = .returned (.tuple #[.bool (mayF c t d), .int .i64 0]) ∧ Below w.heap.size w w' := by
  have H0 := Lib.hid (box w c h)
  have HC := Lib.hid (fun W (hW : CalAt W c) => checkTeam_ok c t W hW h0 ht)
  have HM := Lib.hid (fun W (hW : CalAt W c) => may_any c t d W hW)
  obtain ⟨wa, wc, ta, tc, ra, rc, e1, e2, e3⟩ := h.forms
  have hv : c.val = .agg #[.slice wa c.wins.length wc, .slice ta c.team.length tc, .slice ra c.room.length rc] := by unfold Cal.val; rw [e1, e2, e3]
  rw [hv] at HC HM ⊢
  rw [e1, e2, e3] at H0
  have HD := Lib.hid (fun (W : World) (hL : Box w W w.heap.size c) => show W.cell? ⟨w.heap.size, 0, none⟩ = some (.slice wa c.wins.length wc) ∧ W.cell? ⟨w.heap.size, 1, none⟩ = some (.slice ta c.team.length tc) ∧ W.cell? ⟨w.heap.size, 2, none⟩ = some (.slice ra c.room.length rc) from ⟨by rw [← e1]; exact hL.d0, by rw [← e2]; exact hL.d1, by rw [← e3]; exact hL.d2⟩)
  clear h hv e1 e2 e3 h0 ht
  generalize mayF c t d = q at *
  go_enter Try.func19, Try.ntmps19
  go_wp2_with fail
  generalize w.alloc (.cells #[.slice wa c.wins.length wc, .slice ta c.team.length tc, .slice ra c.room.length rc] 25) = W0 at *
  refine (HC.out _ H0.out.cal).mono ?_
  rintro e w1 ⟨rfl, hb⟩
  have H1 := Lib.hid (H0.out.later hb)
  have hd := HD.out _ H1.out
  clear hb
  go_wp2_with fail
  refine (HM.out _ H1.out.cal).mono ?_
  rintro e w2 ⟨rfl, hb⟩
  have H2 := Lib.hid (H1.out.later hb)
  clear hb
  go_wp2_with fail
  go_ret2
  exact ⟨rfl, H2.out.below⟩

def teamB (c : Cal) (t : Int) (k : Nat) : Bool := ((c.wins[k]?).map fun x => x.ts.any fun y => decide (t = y)).getD false

set_option maxRecDepth 100000 in
set_option maxHeartbeats 4000000 in
theorem suitN_any (c : Cal) (t : Int) (B1 B2 : Nat) (w0 w : World) (hB : Box w0 w B1 c) (hc2 : w.cell? ⟨B2, 0, none⟩ = some (.int .i64 t)) (hB2 : B2 < w.heap.size) :
    SuitOn 51 #[.pointer (some ⟨B1, 0, none⟩), .pointer (some ⟨B2, 0, none⟩)] (teamB c t) c.wins.length w := fun W k hk hbW => by
  have h1 := hB.later hbW
  have x2 : W.cell? ⟨B2, 0, none⟩ = some (.int .i64 t) := (hbW.cell (p := ⟨B2, 0, none⟩) hB2).trans hc2
  obtain ⟨b, off, cap, hs, hbw, r0, r1, r2⟩ := h1.cal.wins.row hk
  have x0 := h1.d0
  rw [hs] at x0
  have hin := h1.cal.wins.teams c.wins[k] (List.getElem_mem hk)
  have HT := Lib.hid (fun n => (contains_int t c.wins[k].tv c.wins[k].ts (W.drewN n) (hin.below (Below.drewN0 W n))).mono fun e w' hh => (show _ ∧ w' = W.drewN n from ⟨hh.1, hh.2.symm⟩))
  obtain ⟨q, hq⟩ : ∃ q, q = teamB c t k := ⟨_, rfl⟩
  rw [← hq]
  unfold teamB at hq
  rw [List.getElem?_eq_getElem hk] at hq
  simp only [Option.map_some, Option.getD_some] at hq
  have HQ := Lib.hid hq
  clear hq h1 hs hbw r0 r1 hc2
  have hf := hin.form
  clear hin
  generalize c.wins[k].tv = tv at *
  obtain ⟨ya, yc, rfl⟩ := hf
  generalize (c.wins[k].ts.any fun y => decide (t = y)) = qa at *
  generalize c.wins[k].ts.length = yn at *
  have hk0 : (0 : Int) ≤ (k : Int) := by omega
  have hkn : (k : Int) < (c.wins.length : Int) := by omega
  generalize c.wins.length = wn at *
  clear hB hbW
  show Calls Try.prog 51 #[.int .i64 k, .pointer (some ⟨B1, 0, none⟩), .pointer (some ⟨B2, 0, none⟩)] W _
  go_enter Try.func51, Try.ntmps51
  go_wp2_with fail
  go_quiet ((first | (go_at_call 52; exact Calls.quiet_of_same (HT.out _))))
  go_wp2_with fail
  go_ret
  exact ⟨by rw [HQ.out]; rfl, Below.drewN0 _ _⟩

set_option maxRecDepth 100000 in
set_option maxHeartbeats 8000000 in
theorem next_ok (c : Cal) (t d : Int) (w : World) (h : CalAt w c) (h0 : checkF c c.team.length = 0) (ht : 0 ≤ t ∧ t < (c.room.length : Int)) :
    Calls Try.prog 21 #[c.val, .int .i64 t, .int .i64 d] w fun e w' => e = .returned (.tuple #[.int .i64 (firstD d (teamB c t) 0 c.wins).1, .bool (firstD d (teamB c t) 0 c.wins).2, .int .i64 0]) ∧ Below w.heap.size w w' := by
  have H0 := Lib.hid (ea0 w c t h)
  have HC := Lib.hid (fun W (hW : CalAt W c) => checkTeam_ok c t W hW h0 ht)
  have HFST := Lib.hid (fun lb q W (hW : Below w.heap.size w W) (hs : SuitOn 51 lb q c.wins.length W) => first_any c d 51 lb (enters_of Try.func51 (by kernel_rfl) rfl) q W (h.below hW) hs)
  obtain ⟨wa, wc, ta, tc, ra, rc, e1, e2, e3⟩ := h.forms
  have hv : c.val = .agg #[.slice wa c.wins.length wc, .slice ta c.team.length tc, .slice ra c.room.length rc] := by unfold Cal.val; rw [e1, e2, e3]
  rw [hv] at HC HFST ⊢
  rw [e1, e2, e3] at H0
  have HD := Lib.hid (fun (W : World) (hL : Ea w W c t) => show W.cell? ⟨w.heap.size, 0, none⟩ = some (.slice wa c.wins.length wc) ∧ W.cell? ⟨w.heap.size, 1, none⟩ = some (.slice ta c.team.length tc) ∧ W.cell? ⟨w.heap.size, 2, none⟩ = some (.slice ra c.room.length rc) ∧ W.cell? ⟨w.heap.size + 1, 0, none⟩ = some (.int .i64 t) from ⟨by rw [← e1]; exact hL.box.d0, by rw [← e2]; exact hL.box.d1, by rw [← e3]; exact hL.box.d2, hL.dt⟩)
  clear h hv e1 e2 e3 h0 ht
  obtain ⟨z, hz⟩ : ∃ z, z = firstD d (teamB c t) 0 c.wins := ⟨_, rfl⟩
  rw [← hz]
  have HZ := Lib.hid hz
  clear hz
  have hmf : ∀ (fn : Fn) (first cap : Array Value) (w : World), (Instr.makeFunc fn first cap).run Try.prog w = .ok (.func fn first cap) w := fun _ _ _ _ => rfl
  go_enter Try.func21, Try.ntmps21
  go_wp2_with fail
  generalize (w.alloc (.cells #[.slice wa c.wins.length wc, .slice ta c.team.length tc, .slice ra c.room.length rc] 25)).alloc (.cells #[.int .i64 t] 3) = W0 at *
  refine (HC.out _ H0.out.box.cal).mono ?_
  rintro e w1 ⟨rfl, hb⟩
  have H1 := Lib.hid (H0.out.later hb)
  have hd := HD.out _ H1.out
  have hsu := suitN_any c t w.heap.size (w.heap.size + 1) w w1 H1.out.box H1.out.dt H1.out.ht
  have hfi := HFST.out _ _ w1 H1.out.box.below hsu
  rw [← HZ.out] at hfi
  have HFI := Lib.hid hfi
  clear hb hsu hfi HFST HC
  go_wp2_with fail
  refine HFI.out.mono ?_
  rintro e w4 ⟨rfl, hb⟩
  go_wp2_with fail
  go_ret3
  exact ⟨rfl, H1.out.box.below.trans (hb.mono H1.out.box.below.size)⟩

set_option maxHeartbeats 2000000 in
theorem has_any (x : Int) (v : Value) (l : List Int) (w : World) (hv : IntsAt w v l) :
    Calls Try.prog 31 #[v, .int .i64 x] w fun e w' => e = .returned (.bool (l.any fun y => decide (x = y))) ∧ w = w' := by
  obtain ⟨hl, a, cap, rfl, hc⟩ := hv
  have hc' : ∀ j (h : j < l.length), ∃ b off, a = some ⟨b, off, none⟩ ∧ w.cell? ⟨b, off + j, none⟩ = some (.int .i64 l[j]) := fun j hj => by
    rcases hc with rfl | ⟨b, off, rfl, hb, hcc⟩
    · simp at hj
    · exact ⟨b, off, rfl, hcc j hj⟩
  have HC := Lib.hid hc'
  clear hc hc'
  generalize hn : l.length = n at hl ⊢
  have HN := Lib.hid hn
  clear hn
  rw [← firstI_any (fun y => decide (x = y)) l]
  obtain ⟨q, hq⟩ : ∃ q, q = decide (0 ≤ firstI (fun y => decide (x = y)) l) := ⟨_, rfl⟩
  rw [← hq]
  have HQ := Lib.hid hq
  clear hq
  go_enter Try.func31, Try.ntmps31
  go_wp2
  go_loopg [6, 9] n (fun gg _ s9 wr => ∃ kk : Nat, kk ≤ n ∧ n - kk ≤ gg ∧ s9 = .int .i64 kk ∧ wr = w ∧ Aside (∀ j (hj : j < l.length), j < kk → decide (x = l[j]) = false))
  case atStart => exact ⟨0, Nat.zero_le _, by omega, rfl, rfl, fun j hj h0 => absurd h0 (Nat.not_lt_zero _)⟩
  case round =>
    obtain ⟨kk, hkk, hg, rfl, rfl, A⟩ := hrel
    by_cases hlt : kk < n
    · have hltz : (kk : Int) < (n : Int) := by omega
      have hk2 : kk < l.length := by rw [HN.out]; exact hlt
      obtain ⟨b, off, rfl, hcell⟩ := HC.out kk hk2
      generalize hy : l[kk] = y at hcell
      have B : Aside (l[kk]'hk2 = y) := hy
      clear hy
      by_cases hq : x = y
      · subst hq
        have hxx : (x == x) = true := by simp
        go_wp2
        go_ret
        refine ⟨?_, rfl⟩
        rw [HQ.out, firstI_hit hk2 (by rw [B.out]; simp) A.out]
        simp
      · have hxx : (y == x) = false := by simpa using fun e => hq e.symm
        go_wp2
        go_roundg (n - (kk + 1))
        case measure => omega
        case rel =>
          refine ⟨kk + 1, by omega, by omega, by go_num, rfl, (show Aside _ from fun j hj hjk => ?_)⟩
          by_cases e : j = kk
          · subst e
            rw [B.out]; exact decide_eq_false hq
          · exact A.out j hj (by omega)
    · have hltz : ¬ (kk : Int) < (n : Int) := by omega
      have hkn : kk = n := by omega
      subst hkn
      go_wp2
      go_ret
      refine ⟨?_, rfl⟩
      rw [HQ.out, firstI_miss fun j hj => A.out j hj (by have := HN.out; omega)]
      rfl
end Go.Proofs.Ytpbahffkhpfakaa


import Derived.Test.YtpbahffkhpfakaaRAtZ
import Derived.Test.YtpbahffkhpfakaaWNx1Z
import Derived.Test.YtpbahffkhpfakaaRErZ
namespace Go.Proofs.Ytpbahffkhpfakaa
open Go.RowKit
set_option linter.unusedSimpArgs false
set_option linter.unusedVariables false

/-! ## At, May, Next: what they answer at any calendar -/

/-- what is said of a team -/
def teamE (c : Cal) (t : Int) : Int := if checkF c c.team.length ≠ 0 then checkF c c.team.length else if 0 ≤ t ∧ t < (c.room.length : Int) then 0 else 2

set_option maxRecDepth 100000 in
set_option maxHeartbeats 4000000 in
theorem checkTeam_err (c : Cal) (t : Int) (w : World) (h : CalAt w c) (h0 : checkF c c.team.length ≠ 0) :
    Calls Try.prog 46 #[c.val, .int .i64 t] w fun e w' => e = .returned (.int .i64 (checkF c c.team.length)) ∧ Below w.heap.size w w' := by
  have HC := Lib.hid (fun W (hW : CalAt W c) => check_any c c.team.length W hW)
  obtain ⟨wa, wc, ta, tc, ra, rc, hS⟩ := h.shape
  have HS := Lib.hid hS
  have H0 := Lib.hid (hS.box h)
  rw [hS.val] at HC ⊢
  have hd := hS.cells H0.out
  clear h hS
  generalize checkF c c.team.length = z at *
  have hzb : (z == 0) = false := by simpa using h0
  go_enter Try.func46, Try.ntmps46
  go_wp2_with fail
  generalize w.alloc (.cells #[.slice wa c.wins.length wc, .slice ta c.team.length tc, .slice ra c.room.length rc] 25) = W0 at *
  refine (HC.out _ H0.out.cal).mono ?_
  rintro e w1 ⟨rfl, hb⟩
  have H1 := Lib.hid (H0.out.later hb)
  clear hb hd
  go_wp2_with fail
  go_ret
  exact ⟨rfl, H1.out.below⟩

set_option maxRecDepth 100000 in
set_option maxHeartbeats 4000000 in
theorem checkTeam_out (c : Cal) (t : Int) (w : World) (h : CalAt w c) (h0 : checkF c c.team.length = 0) (ht : ¬ (0 ≤ t ∧ t < (c.room.length : Int))) :
    Calls Try.prog 46 #[c.val, .int .i64 t] w fun e w' => e = .returned (.int .i64 2) ∧ Below w.heap.size w w' := by
  have HC := Lib.hid (fun W (hW : CalAt W c) => check_any c c.team.length W hW)
  rw [h0] at HC
  have hr8 := (ok0_of h0).room
  obtain ⟨wa, wc, ta, tc, ra, rc, hS⟩ := h.shape
  have HS := Lib.hid hS
  have H0 := Lib.hid (hS.box h)
  rw [hS.val] at HC ⊢
  have hd := hS.cells H0.out
  clear h hS h0
  go_enter Try.func46, Try.ntmps46
  go_wp2_with fail
  generalize w.alloc (.cells #[.slice wa c.wins.length wc, .slice ta c.team.length tc, .slice ra c.room.length rc] 25) = W0 at *
  refine (HC.out _ H0.out.cal).mono ?_
  rintro e w1 ⟨rfl, hb⟩
  have H1 := Lib.hid (H0.out.later hb)
  have hw8 : wrap64 ((c.room.length : Int) - 1) = (c.room.length : Int) - 1 := by unfold wrap64; omega
  have HIN := Lib.hid (show inB t 0 ((c.room.length : Int) - 1) = false by unfold inB; simp; omega)
  clear hb hd
  have hd := HS.out.cells H1.out
  go_wp2_with fail
  refine (in_any t 0 ((c.room.length : Int) - 1) w1).mono ?_
  rintro e w2 ⟨rfl, hb⟩
  rw [HIN.out]
  subst hb
  go_wp2_with fail
  go_ret
  exact ⟨rfl, H1.out.below⟩
theorem checkTeam_any (c : Cal) (t : Int) (w : World) (h : CalAt w c) :
    Calls Try.prog 46 #[c.val, .int .i64 t] w fun e w' => e = .returned (.int .i64 (teamE c t)) ∧ Below w.heap.size w w' := by
  unfold teamE
  by_cases h0 : checkF c c.team.length = 0
  · rw [if_neg (by rw [h0]; simp)]
    by_cases ht : 0 ≤ t ∧ t < (c.room.length : Int)
    · rw [if_pos ht]; exact checkTeam_ok c t w h h0 ht
    · rw [if_neg ht]; exact checkTeam_out c t w h h0 ht
  · rw [if_pos h0]; exact checkTeam_err c t w h h0

set_option maxRecDepth 100000 in
set_option maxHeartbeats 4000000 in
theorem at_err (c : Cal) (day : Int) (w : World) (h : CalAt w c) (h0 : checkF c c.team.length ≠ 0) :
    Calls Try.prog 17 #[c.val, .int .i64 day] w fun e w' => e = .returned (.tuple #[.int .i64 0, .bool false, .int .i64 (checkF c c.team.length)]) ∧ Below w.heap.size w w' := by
  have HC := Lib.hid (fun W (hW : CalAt W c) => check_any c c.team.length W hW)
  obtain ⟨wa, wc, ta, tc, ra, rc, hS⟩ := h.shape
  have HS := Lib.hid hS
  have H0 := Lib.hid (hS.box h)
  rw [hS.val] at HC ⊢
  have hd := hS.cells H0.out
  clear h hS
  generalize checkF c c.team.length = z at *
  have hzb : (z == 0) = false := by simpa using h0
  go_enter Try.func17, Try.ntmps17
  go_wp2_with fail
  generalize w.alloc (.cells #[.slice wa c.wins.length wc, .slice ta c.team.length tc, .slice ra c.room.length rc] 25) = W0 at *
  refine (HC.out _ H0.out.cal).mono ?_
  rintro e w1 ⟨rfl, hb⟩
  have H1 := Lib.hid (H0.out.later hb)
  clear hb hd
  go_wp2_with fail
  go_ret3
  exact ⟨rfl, H1.out.below⟩

set_option maxRecDepth 100000 in
set_option maxHeartbeats 4000000 in
theorem may_err (c : Cal) (t d : Int) (w : World) (h : CalAt w c) (h0 : teamE c t ≠ 0) :
    Calls Try.prog 19 #[c.val, .int .i64 t, .int .i64 d] w fun e w' => e = .returned (.tuple #[.bool false, .int .i64 (teamE c t)]) ∧ Below w.heap.size w w' := by
  have HC := Lib.hid (fun W (hW : CalAt W c) => checkTeam_any c t W hW)
  obtain ⟨wa, wc, ta, tc, ra, rc, hS⟩ := h.shape
  have HS := Lib.hid hS
  have H0 := Lib.hid (hS.box h)
  rw [hS.val] at HC ⊢
  have hd := hS.cells H0.out
  clear h hS
  generalize teamE c t = z at *
  have hzb : (z == 0) = false := by simpa using h0
  go_enter Try.func19, Try.ntmps19
  go_wp2_with fail
  generalize w.alloc (.cells #[.slice wa c.wins.length wc, .slice ta c.team.length tc, .slice ra c.room.length rc] 25) = W0 at *
  refine (HC.out _ H0.out.cal).mono ?_
  rintro e w1 ⟨rfl, hb⟩
  have H1 := Lib.hid (H0.out.later hb)
  clear hb hd
  go_wp2_with fail
  go_ret2
  exact ⟨rfl, H1.out.below⟩

set_option maxRecDepth 100000 in
set_option maxHeartbeats 4000000 in
theorem next_err (c : Cal) (t d : Int) (w : World) (h : CalAt w c) (h0 : teamE c t ≠ 0) :
    Calls Try.prog 21 #[c.val, .int .i64 t, .int .i64 d] w fun e w' => e = .returned (.tuple #[.int .i64 0, .bool false, .int .i64 (teamE c t)]) ∧ Below w.heap.size w w' := by
  have H0 := Lib.hid (ea0 w c t h)
  have HC := Lib.hid (fun W (hW : CalAt W c) => checkTeam_any c t W hW)
  obtain ⟨wa, wc, ta, tc, ra, rc, e1, e2, e3⟩ := h.forms
  have hv : c.val = .agg #[.slice wa c.wins.length wc, .slice ta c.team.length tc, .slice ra c.room.length rc] := by unfold Cal.val; rw [e1, e2, e3]
  rw [hv] at HC ⊢
  rw [e1, e2, e3] at H0
  have HD := Lib.hid (fun (W : World) (hL : Ea w W c t) => show W.cell? ⟨w.heap.size, 0, none⟩ = some (.slice wa c.wins.length wc) ∧ W.cell? ⟨w.heap.size, 1, none⟩ = some (.slice ta c.team.length tc) ∧ W.cell? ⟨w.heap.size, 2, none⟩ = some (.slice ra c.room.length rc) ∧ W.cell? ⟨w.heap.size + 1, 0, none⟩ = some (.int .i64 t) from ⟨by rw [← e1]; exact hL.box.d0, by rw [← e2]; exact hL.box.d1, by rw [← e3]; exact hL.box.d2, hL.dt⟩)
  clear h hv e1 e2 e3
  generalize teamE c t = z at *
  have hzb : (z == 0) = false := by simpa using h0
  go_enter Try.func21, Try.ntmps21
  go_wp2_with fail
  generalize (w.alloc (.cells #[.slice wa c.wins.length wc, .slice ta c.team.length tc, .slice ra c.room.length rc] 25)).alloc (.cells #[.int .i64 t] 3) = W0 at *
  refine (HC.out _ H0.out.box.cal).mono ?_
  rintro e w1 ⟨rfl, hb⟩
  have H1 := Lib.hid (H0.out.later hb)
  clear hb
  go_wp2_with fail
  go_ret3
  exact ⟨rfl, H1.out.box.below⟩
end Go.Proofs.Ytpbahffkhpfakaa

namespace Go.Proofs.Ytpbahffkhpfakaa
open Go.RowKit
set_option linter.unusedSimpArgs false
set_option linter.unusedVariables false

/-! ## The reference's At, known, May -/

def atR (c : Cal) (day : Int) : Value := if checkF c c.team.length ≠ 0 then .tuple #[.int .i64 0, .bool false, .int .i64 (checkF c c.team.length)] else .tuple #[.int .i64 (max (atF c day) 0), .bool (decide (0 ≤ atF c day)), .int .i64 0]
theorem wat_any (c : Cal) (day : Int) (w : World) (h : CalAt w c) :
    Calls Try.prog 17 #[c.val, .int .i64 day] w fun e w' => e = .returned (atR c day) ∧ Below w.heap.size w w' := by
  unfold atR
  by_cases h0 : checkF c c.team.length = 0
  · rw [if_neg (by rw [h0]; simp)]; exact at_ok c day w h h0
  · rw [if_pos h0]; exact at_err c day w h h0

set_option maxRecDepth 100000 in
set_option maxHeartbeats 4000000 in
theorem rAt_any (c : Cal) (day : Int) (w : World) (h : CalAt w c) :
    Calls Try.prog 18 #[c.val, .int .i64 day] w fun e w' => e = .returned (atR c day) ∧ Below w.heap.size w w' := by
  obtain ⟨q, hq⟩ : ∃ q, q = atR c day := ⟨_, rfl⟩
  rw [← hq]
  unfold atR at hq
  have HQ := Lib.hid hq
  clear hq
  have HC := Lib.hid (fun W (hW : CalAt W c) => rcheck_any c c.team.length W hW)
  have HA := Lib.hid (fun W (hW : CalAt W c) => rat_any c day W hW)
  obtain ⟨wa, wc, ta, tc, ra, rc, hS⟩ := h.shape
  have HS := Lib.hid hS
  have H0 := Lib.hid (hS.box h)
  rw [hS.val] at HC HA ⊢
  have hd := hS.cells H0.out
  clear h hS
  generalize checkF c c.team.length = z at *
  generalize atF c day = y at *
  go_enter Try.func18, Try.ntmps18
  go_wp2_with fail
  generalize w.alloc (.cells #[.slice wa c.wins.length wc, .slice ta c.team.length tc, .slice ra c.room.length rc] 25) = W0 at *
  refine (HC.out _ H0.out.cal).mono ?_
  rintro e w1 ⟨rfl, hb⟩
  have H1 := Lib.hid (H0.out.later hb)
  clear hb hd
  have hd := HS.out.cells H1.out
  by_cases h0 : z = 0
  · subst h0
    go_wp2_with fail
    refine (HA.out _ H1.out.cal).mono ?_
    rintro e w2 ⟨rfl, hb⟩
    have H2 := Lib.hid (H1.out.later hb)
    clear hb hd
    by_cases hy : 0 ≤ y
    · have hy2 : decide (0 ≤ y) = true := decide_eq_true hy
      have E1 := Lib.hid (show max y 0 = y by omega)
      have E2 := Lib.hid hy2
      go_wp2_with fail
      go_ret3
      refine ⟨?_, H2.out.below⟩
      rw [HQ.out, if_neg (by simp), E1.out, E2.out]
      rfl
    · have E1 := Lib.hid (show max y 0 = 0 by omega)
      have E2 := Lib.hid (show decide (0 ≤ y) = false from decide_eq_false hy)
      go_wp2_with fail
      go_ret3
      refine ⟨?_, H2.out.below⟩
      rw [HQ.out, if_neg (by simp), E1.out, E2.out]
      rfl
  · have hzb : (z == 0) = false := by simpa using h0
    have HZ := Lib.hid h0
    go_wp2_with fail
    go_ret3
    refine ⟨?_, H1.out.below⟩
    rw [HQ.out, if_pos HZ.out]
    rfl

set_option maxRecDepth 100000 in
set_option maxHeartbeats 4000000 in
theorem rknown_any (c : Cal) (t : Int) (w : World) (h : CalAt w c) :
    Calls Try.prog 48 #[c.val, .int .i64 t] w fun e w' => e = .returned (.int .i64 (teamE c t)) ∧ Below w.heap.size w w' := by
  obtain ⟨q, hq⟩ : ∃ q, q = teamE c t := ⟨_, rfl⟩
  rw [← hq]
  unfold teamE at hq
  have HQ := Lib.hid hq
  clear hq
  have HC := Lib.hid (fun W (hW : CalAt W c) => rcheck_any c c.team.length W hW)
  obtain ⟨wa, wc, ta, tc, ra, rc, hS⟩ := h.shape
  have HS := Lib.hid hS
  have H0 := Lib.hid (hS.box h)
  rw [hS.val] at HC ⊢
  have hd := hS.cells H0.out
  clear h hS
  generalize checkF c c.team.length = z at *
  go_enter Try.func48, Try.ntmps48
  go_wp2_with fail
  generalize w.alloc (.cells #[.slice wa c.wins.length wc, .slice ta c.team.length tc, .slice ra c.room.length rc] 25) = W0 at *
  refine (HC.out _ H0.out.cal).mono ?_
  rintro e w1 ⟨rfl, hb⟩
  have H1 := Lib.hid (H0.out.later hb)
  clear hb hd
  have hd := HS.out.cells H1.out
  by_cases h0 : z = 0
  · subst h0
    by_cases h1 : t < 0
    · have hq : q = 2 := by rw [HQ.out, if_neg (by simp), if_neg (by omega)]
      subst hq
      go_wp2_with fail
      go_ret
      exact ⟨rfl, H1.out.below⟩
    · by_cases h2 : t < (c.room.length : Int)
      · have hq : q = 0 := by rw [HQ.out, if_neg (by simp), if_pos (by omega)]
        subst hq
        have h3 : ¬ (c.room.length : Int) ≤ t := by omega
        go_wp2_with fail
        go_ret
        exact ⟨rfl, H1.out.below⟩
      · have hq : q = 2 := by rw [HQ.out, if_neg (by simp), if_neg (by omega)]
        subst hq
        have h3 : (c.room.length : Int) ≤ t := by omega
        go_wp2_with fail
        go_ret
        exact ⟨rfl, H1.out.below⟩
  · have hzb : (z == 0) = false := by simpa using h0
    have hq : q = z := by rw [HQ.out, if_pos h0]
    subst hq
    go_wp2_with fail
    go_ret
    exact ⟨rfl, H1.out.below⟩
end Go.Proofs.Ytpbahffkhpfakaa

namespace Go.Proofs.Ytpbahffkhpfakaa
open Go.RowKit
set_option linter.unusedSimpArgs false
set_option linter.unusedVariables false

/-! ## May, Next: the program's and the reference's -/

theorem teamE_zero {c : Cal} {t : Int} (h : teamE c t = 0) : checkF c c.team.length = 0 ∧ (0 ≤ t ∧ t < (c.room.length : Int)) := by
  unfold teamE at h
  by_cases h0 : checkF c c.team.length = 0
  · rw [if_neg (by rw [h0]; simp)] at h
    by_cases ht : 0 ≤ t ∧ t < (c.room.length : Int)
    · exact ⟨h0, ht⟩
    · rw [if_neg ht] at h; cases h
  · rw [if_pos h0] at h; exact absurd h h0
def mayR (c : Cal) (t d : Int) : Value := if teamE c t ≠ 0 then .tuple #[.bool false, .int .i64 (teamE c t)] else .tuple #[.bool (mayF c t d), .int .i64 0]
theorem wMay_any (c : Cal) (t d : Int) (w : World) (h : CalAt w c) :
    Calls Try.prog 19 #[c.val, .int .i64 t, .int .i64 d] w fun e w' => e = .returned (mayR c t d) ∧ Below w.heap.size w w' := by
  unfold mayR
  by_cases h0 : teamE c t = 0
  · rw [if_neg (by rw [h0]; simp)]; exact may_ok c t d w h (teamE_zero h0).1 (teamE_zero h0).2
  · rw [if_pos h0]; exact may_err c t d w h h0
def nextR (c : Cal) (t d : Int) : Value := if teamE c t ≠ 0 then .tuple #[.int .i64 0, .bool false, .int .i64 (teamE c t)] else .tuple #[.int .i64 (firstD d (teamB c t) 0 c.wins).1, .bool (firstD d (teamB c t) 0 c.wins).2, .int .i64 0]
theorem wNext_any (c : Cal) (t d : Int) (w : World) (h : CalAt w c) :
    Calls Try.prog 21 #[c.val, .int .i64 t, .int .i64 d] w fun e w' => e = .returned (nextR c t d) ∧ Below w.heap.size w w' := by
  unfold nextR
  by_cases h0 : teamE c t = 0
  · rw [if_neg (by rw [h0]; simp)]; exact next_ok c t d w h (teamE_zero h0).1 (teamE_zero h0).2
  · rw [if_pos h0]; exact next_err c t d w h h0

set_option maxRecDepth 100000 in
set_option maxHeartbeats 4000000 in
theorem rMay_any (c : Cal) (t d : Int) (w : World) (h : CalAt w c) :
    Calls Try.prog 20 #[c.val, .int .i64 t, .int .i64 d] w fun e w' => e = .returned (mayR c t d) ∧ Below w.heap.size w w' := by
  obtain ⟨q, hq⟩ : ∃ q, q = mayR c t d := ⟨_, rfl⟩
  rw [← hq]
  unfold mayR at hq
  have HQ := Lib.hid hq
  clear hq
  have HC := Lib.hid (fun W (hW : CalAt W c) => rknown_any c t W hW)
  have HA := Lib.hid (fun W (hW : CalAt W c) => rmay_any c t d W hW)
  obtain ⟨wa, wc, ta, tc, ra, rc, hS⟩ := h.shape
  have HS := Lib.hid hS
  have H0 := Lib.hid (hS.box h)
  rw [hS.val] at HC HA ⊢
  have hd := hS.cells H0.out
  clear h hS
  generalize teamE c t = z at *
  generalize mayF c t d = y at *
  go_enter Try.func20, Try.ntmps20
  go_wp2_with fail
  generalize w.alloc (.cells #[.slice wa c.wins.length wc, .slice ta c.team.length tc, .slice ra c.room.length rc] 25) = W0 at *
  refine (HC.out _ H0.out.cal).mono ?_
  rintro e w1 ⟨rfl, hb⟩
  have H1 := Lib.hid (H0.out.later hb)
  clear hb hd
  have hd := HS.out.cells H1.out
  by_cases h0 : z = 0
  · subst h0
    go_wp2_with fail
    refine (HA.out _ H1.out.cal).mono ?_
    rintro e w2 ⟨rfl, hb⟩
    have H2 := Lib.hid (H1.out.later hb)
    clear hb hd
    go_wp2_with fail
    go_ret2
    refine ⟨?_, H2.out.below⟩
    rw [HQ.out, if_neg (by simp)]
    rfl
  · have hzb : (z == 0) = false := by simpa using h0
    have HZ := Lib.hid h0
    go_wp2_with fail
    go_ret2
    refine ⟨?_, H1.out.below⟩
    rw [HQ.out, if_pos HZ.out]
    rfl
end Go.Proofs.Ytpbahffkhpfakaa

namespace Go.Proofs.Ytpbahffkhpfakaa
open Go.RowKit
set_option linter.unusedSimpArgs false
set_option linter.unusedVariables false

/-! ## The reference's Next -/

theorem firstD_here {d : Int} {q : Nat → Bool} {ws : List Win} {k : Nat} (hk : k < ws.length) (h : max d ws[k].frm < ws[k].til ∧ q k = true) (hb : ∀ j (hj : j < ws.length), j < k → ¬ (max d ws[j].frm < ws[j].til ∧ q j = true)) : firstD d q 0 ws = (max d ws[k].frm, true) := by
  rcases firstD_cases d q ws 0 with ⟨_, hn⟩ | ⟨j, hj, e, h1, h2⟩
  · exact absurd (by rw [Nat.zero_add]; exact h) (hn k hk)
  · by_cases e1 : j = k
    · subst e1; exact e
    · by_cases e2 : j < k
      · rw [Nat.zero_add] at h1; exact absurd h1 (hb j hj e2)
      · exact absurd (by rw [Nat.zero_add]; exact h) (h2 k (by omega))
theorem firstD_none {d : Int} {q : Nat → Bool} {ws : List Win} (hb : ∀ j (hj : j < ws.length), ¬ (max d ws[j].frm < ws[j].til ∧ q j = true)) : firstD d q 0 ws = (0, false) := by
  rcases firstD_cases d q ws 0 with ⟨e, _⟩ | ⟨j, hj, _, h1, _⟩
  · exact e
  · rw [Nat.zero_add] at h1; exact absurd h1 (hb j hj)

set_option maxRecDepth 100000 in
set_option maxHeartbeats 4000000 in
theorem rNext_any (c : Cal) (t d : Int) (w : World) (h : CalAt w c) :
    Calls Try.prog 22 #[c.val, .int .i64 t, .int .i64 d] w fun e w' => e = .returned (nextR c t d) ∧ Below w.heap.size w w' := by
  obtain ⟨q, hq⟩ : ∃ q, q = nextR c t d := ⟨_, rfl⟩
  rw [← hq]
  unfold nextR at hq
  have HQ := Lib.hid hq
  clear hq
  have HC := Lib.hid (fun W (hW : CalAt W c) => rknown_any c t W hW)
  have HA := Lib.hid (fun W (x : Int) (hW : CalAt W c) => rmay_any c t x W hW)
  have hlw := h.wins.len
  obtain ⟨wa, wc, ta, tc, ra, rc, hS⟩ := h.shape
  have HS := Lib.hid hS
  have H0 := Lib.hid (hS.box h)
  rw [hS.val] at HC HA ⊢
  have hd := hS.cells H0.out
  clear h hS
  have HTZ := Lib.hid (fun (h : teamE c t = 0) => teamE_zero h)
  generalize teamE c t = z at *
  go_enter Try.func22, Try.ntmps22
  go_wp2_with fail
  generalize w.alloc (.cells #[.slice wa c.wins.length wc, .slice ta c.team.length tc, .slice ra c.room.length rc] 25) = W0 at *
  refine (HC.out _ H0.out.cal).mono ?_
  rintro e w1 ⟨rfl, hb⟩
  have H1 := Lib.hid (H0.out.later hb)
  clear hb hd
  have hd := HS.out.cells H1.out
  by_cases h0 : z = 0
  · have HCK := Lib.hid (HTZ.out h0).1
    subst h0
    go_wp2_with fail
    clear hd
    go_loopg [22] c.wins.length (fun gg s22 wr => ∃ kk : Nat, kk ≤ c.wins.length ∧ c.wins.length - kk ≤ gg ∧ s22 = .int .i64 kk ∧ Aside (Box w wr w.heap.size c) ∧ Aside (∀ j (hj : j < c.wins.length), j < kk → ¬ (max d c.wins[j].frm < c.wins[j].til ∧ teamB c t j = true)))
    case atStart => exact ⟨0, Nat.zero_le _, by omega, rfl, H1.out, fun j hj h0 => absurd h0 (Nat.not_lt_zero _)⟩
    case round =>
      obtain ⟨kk, hkk, hg, rfl, L, A⟩ := hrel
      by_cases hlt : kk < c.wins.length
      · have hltz : (kk : Int) < (c.wins.length : Int) := by omega
        have hlk : kk < 33 := by have := (ok0_of HCK.out).wins; omega
        obtain ⟨b, off, rfl, hb, c0, c1, c2, hin⟩ := HS.out.win L.out.cal hlt
        obtain ⟨ya, yc, ey⟩ := hin.form
        have HYES := Lib.hid (fun (h1 : max d c.wins[kk].frm < c.wins[kk].til) (h2 : mayF c t (max d c.wins[kk].frm) = true) => show q = .tuple #[.int .i64 (max d c.wins[kk].frm), .bool true, .int .i64 0] by
          rw [may_in HCK.out t _ hlt (by omega) h1] at h2
          rw [HQ.out, if_neg (by simp), firstD_here hlt ⟨h1, by rw [teamB_at hlt]; exact h2⟩ A.out])
        have HNO := Lib.hid (fun (h : ¬ (max d c.wins[kk].frm < c.wins[kk].til ∧ mayF c t (max d c.wins[kk].frm) = true)) => show ∀ j (hj : j < c.wins.length), j < kk + 1 → ¬ (max d c.wins[j].frm < c.wins[j].til ∧ teamB c t j = true) from fun j hj hjk => by
          by_cases e : j = kk
          · subst e
            intro ⟨h1, h2⟩
            rw [teamB_at hlt] at h2
            exact h ⟨h1, by rw [may_in HCK.out t _ hlt (by omega) h1]; exact h2⟩
          · exact A.out j hj (by omega))
        rw [ey] at c2
        clear hin ey A
        generalize c.wins[kk] = y at *
        obtain ⟨yf, yt, yv, ys⟩ := y
        simp only at *
        have LA := Lib.hid (L.out.later (Below.alloc1 wr (.cells #[.int .i64 yf, .int .i64 yt, .slice ya ys.length yc] 58)))
        have hd := HS.out.cells LA.out
        by_cases hm : max d yf < yt
        · have HMM := Lib.hid hm
          have HMA := Lib.hid (HA.out _ (max d yf) LA.out.cal)
          generalize mayF c t (max d yf) = mb at *
          go_wp2_with fail
          refine HMA.out.mono ?_
          rintro e w5 ⟨rfl, hb5⟩
          have L5 := Lib.hid (LA.out.later hb5)
          clear hb5
          cases mb with
          | true =>
            have hq := HYES.out HMM.out rfl
            subst hq
            clear HYES HNO
            go_wp2_with fail
            go_ret3
            exact ⟨rfl, L5.out.below⟩
          | false =>
            go_wp2_with fail
            go_roundg (c.wins.length - (kk + 1))
            case measure => omega
            case rel => exact ⟨kk + 1, by omega, by omega, by go_num, L5.out, HNO.out (fun h => by cases h.2)⟩
        · have HMM := Lib.hid hm
          go_wp2_with fail
          go_roundg (c.wins.length - (kk + 1))
          case measure => omega
          case rel => exact ⟨kk + 1, by omega, by omega, by go_num, LA.out, HNO.out (fun h => by have h1 := HMM.out; have h2 := h.1; omega)⟩
      · have hltz : ¬ (kk : Int) < (c.wins.length : Int) := by omega
        have hq : q = .tuple #[.int .i64 0, .bool false, .int .i64 0] := by
          rw [HQ.out, if_neg (by simp), firstD_none fun j hj => A.out j hj (by omega)]
        subst hq
        go_wp2_with fail
        go_ret3
        exact ⟨rfl, L.out.below⟩
  · have hzb : (z == 0) = false := by simpa using h0
    have HZ := Lib.hid h0
    go_wp2_with fail
    go_ret3
    refine ⟨?_, H1.out.below⟩
    rw [HQ.out, if_pos HZ.out]
    rfl
end Go.Proofs.Ytpbahffkhpfakaa


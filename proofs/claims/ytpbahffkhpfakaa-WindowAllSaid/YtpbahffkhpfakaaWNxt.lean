import Derived.Test.YtpbahffkhpfakaaWFst
import Derived.OwnWalk
namespace Go.Proofs.Ytpbahffkhpfakaa
open Go.RowKit
set_option linter.unusedSimpArgs false
set_option linter.unusedVariables false

/-! ## At, May, Next -/

theorem lift2 {P : Program} {f : FuncId} {args : Array Value} {w W0 W : World} {B : Nat} {c : Cal} {E : Ending} (hb : Box w W B c) (h : Calls P f args W fun e w' => e = E ∧ Below W.heap.size W w') :
    Calls P f args W fun e w' => e = E ∧ Box w w' B c :=
  h.mono fun _ _ ⟨h1, h2⟩ => ⟨h1, hb.later h2⟩

set_option maxRecDepth 100000 in
set_option maxHeartbeats 4000000 in
theorem at_ok (c : Cal) (day : Int) (w : World) (h : CalAt w c) (h0 : checkF c c.team.length = 0) :
    Calls Try.prog 17 #[c.val, .int .i64 day] w fun e w' => e = .returned (.tuple #[.int .i64 (max (atF c day) 0), .bool (decide (0 ≤ atF c day)), .int .i64 0]) ∧ Below w.heap.size w w' := by
  have H0 := Lib.hid (box w c h)
  have HC := Lib.hid (fun W (hW : CalAt W c) => check_any c c.team.length W hW)
  rw [h0] at HC
  have HA := Lib.hid (fun W (hW : CalAt W c) => at_cal c day W hW)
  obtain ⟨wa, wc, ta, tc, ra, rc, e1, e2, e3⟩ := h.forms
  clear h h0
  generalize atF c day = z at *
  obtain ⟨m, hm⟩ : ∃ m, m = max z 0 := ⟨_, rfl⟩
  obtain ⟨bq, hbq⟩ : ∃ b, b = decide (0 ≤ z) := ⟨_, rfl⟩
  rw [← hm, ← hbq]
  have HM := Lib.hid hm
  have HBQ := Lib.hid hbq
  clear hm hbq
  obtain ⟨ws, tm, rm, wv, tv, rv⟩ := c
  simp only at e1 e2 e3
  subst e1 e2 e3
  unfold Cal.val at *
  simp only at *
  go_enter Try.func17, Try.ntmps17
  go_wp2_with fail
  generalize w.alloc (.cells #[.slice wa ws.length wc, .slice ta tm.length tc, .slice ra rm.length rc] 25) = W0 at *
  refine (HC.out _ H0.out.cal).mono ?_
  rintro e w1 ⟨rfl, hb⟩
  have H1 := Lib.hid (H0.out.later hb)
  have c0 := H1.out.d0
  have c1 := H1.out.d1
  have c2 := H1.out.d2
  simp only at c0 c1 c2
  clear hb
  go_wp2_with fail
  refine (HA.out _ H1.out.cal).mono ?_
  rintro e w2 ⟨rfl, hb⟩
  have H2 := Lib.hid (H1.out.later hb)
  clear hb
  by_cases hz : 0 ≤ z
  · have hz2 : ¬ z < 0 := by omega
    have E1 := Lib.hid (show m = z by have := HM.out; omega)
    have E2 := Lib.hid (show bq = true by rw [HBQ.out]; exact decide_eq_true hz)
    go_wp2_with fail
    all_goals
      go_ret3
      refine ⟨?_, H2.out.below⟩
      rw [E1.out, E2.out]
      first | rfl | (have : z = 0 := by omega
                     subst this
                     rfl)
  · have hz2 : z < 0 := by omega
    have E1 := Lib.hid (show m = 0 by have := HM.out; omega)
    have E2 := Lib.hid (show bq = false by rw [HBQ.out]; exact decide_eq_false hz)
    go_wp2_with fail
    all_goals
      go_ret3
      refine ⟨?_, H2.out.below⟩
      rw [E1.out, E2.out]
      show Ending.returned (.tuple #[.int .i64 0, .bool (decide (0 ≤ z)), .int .i64 0]) = _
      rw [decide_eq_false (show ¬ 0 ≤ z by omega)]
end Go.Proofs.Ytpbahffkhpfakaa

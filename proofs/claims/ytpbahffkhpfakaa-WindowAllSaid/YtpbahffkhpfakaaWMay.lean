import Derived.Test.YtpbahffkhpfakaaWAt
namespace Go.Proofs.Ytpbahffkhpfakaa
open Go.RowKit
set_option linter.unusedSimpArgs false
set_option linter.unusedVariables false

/-- the block of a calendar that was laid last -/
structure Box (w W : World) (B : Nat) (c : Cal) : Prop where
  below : Below w.heap.size w W
  hB : B < W.heap.size
  d0 : W.cell? ⟨B, 0, none⟩ = some c.wv
  d1 : W.cell? ⟨B, 1, none⟩ = some c.tv
  d2 : W.cell? ⟨B, 2, none⟩ = some c.rv
  cal : CalAt W c
theorem box (w : World) (c : Cal) (h : CalAt w c) : Box w (w.alloc (.cells #[c.wv, c.tv, c.rv] 25)) w.heap.size c := by
  have hb : Below w.heap.size w (w.alloc (.cells #[c.wv, c.tv, c.rv] 25)) := (Below.refl _ _).alloc (Nat.le_refl _) _
  exact ⟨hb, by simp, by simp, by simp, by simp, h.below hb⟩
theorem Box.later {w W W2 : World} {B : Nat} {c : Cal} (h : Box w W B c) (hb : Below W.heap.size W W2) : Box w W2 B c :=
  ⟨h.below.trans (hb.mono h.below.size), Nat.lt_of_lt_of_le h.hB hb.size, (hb.cell (p := ⟨B, 0, none⟩) h.hB).trans h.d0, (hb.cell (p := ⟨B, 1, none⟩) h.hB).trans h.d1, (hb.cell (p := ⟨B, 2, none⟩) h.hB).trans h.d2, h.cal.below hb⟩

theorem WinsAt.row {w : World} {v : Value} {ws : List Win} (h : WinsAt w v ws) {k : Nat} (hk : k < ws.length) :
    ∃ b off cap, v = .slice (some ⟨b, off, none⟩) ws.length cap ∧ b < w.heap.size ∧ w.cell? ⟨b, off + k * 3, none⟩ = some (.int .i64 ws[k].frm) ∧ w.cell? ⟨b, off + k * 3 + 1, none⟩ = some (.int .i64 ws[k].til) ∧ w.cell? ⟨b, off + k * 3 + 2, none⟩ = some ws[k].tv := by
  obtain ⟨a, cap, rfl, h2⟩ := h.rows
  rcases h2 with rfl | ⟨b, off, rfl, hb, hc⟩
  · simp at hk
  · exact ⟨b, off, cap, rfl, hb, hc k hk⟩
theorem IntsAt.row {w : World} {v : Value} {l : List Int} (h : IntsAt w v l) {k : Nat} (hk : k < l.length) :
    ∃ b off cap, v = .slice (some ⟨b, off, none⟩) l.length cap ∧ b < w.heap.size ∧ w.cell? ⟨b, off + k, none⟩ = some (.int .i64 l[k]) := by
  obtain ⟨_, a, cap, rfl, h2⟩ := h
  rcases h2 with rfl | ⟨b, off, rfl, hb, hc⟩
  · simp at hk
  · exact ⟨b, off, cap, rfl, hb, hc k hk⟩

theorem CalAt.forms {w : World} {c : Cal} (h : CalAt w c) : ∃ wa wc ta tc ra rc, c.wv = .slice wa c.wins.length wc ∧ c.tv = .slice ta c.team.length tc ∧ c.rv = .slice ra c.room.length rc := by
  obtain ⟨wa, wc, e1⟩ := h.wins.form
  obtain ⟨ta, tc, e2⟩ := h.team.form
  obtain ⟨ra, rc, e3⟩ := h.room.form
  exact ⟨wa, wc, ta, tc, ra, rc, e1, e2, e3⟩
theorem at_cal (c : Cal) (day : Int) (w : World) (h : CalAt w c) :
    Calls Try.prog 44 #[c.val, .int .i64 day] w fun e w' => e = .returned (.int .i64 (atF c day)) ∧ Below w.heap.size w w' := by
  obtain ⟨wa, wc, ta, tc, ra, rc, e1, e2, e3⟩ := h.forms
  exact at_any c day w h.wins ⟨ta, _, tc, e2⟩ ⟨ra, _, rc, e3⟩

set_option maxRecDepth 100000 in
set_option maxHeartbeats 4000000 in
theorem may_any (c : Cal) (team day : Int) (w : World) (h : CalAt w c) :
    Calls Try.prog 47 #[c.val, .int .i64 team, .int .i64 day] w fun e w' => e = .returned (.bool (mayF c team day)) ∧ Below w.heap.size w w' := by
  have H0 := Lib.hid (box w c h)
  have HA := Lib.hid (fun W (hW : CalAt W c) => at_cal c day W hW)
  obtain ⟨wa, wc, ta, tc, ra, rc, e1, e2, e3⟩ := h.forms
  clear h
  obtain ⟨ws, tm, rm, wv, tv, rv⟩ := c
  simp only at e1 e2 e3
  subst e1 e2 e3
  unfold Cal.val mayF at *
  unfold atF at HA
  simp only at *
  rcases firstI_cases (hasB day) ws with ⟨k, hk, e, hh, hbf⟩ | ⟨e, hm⟩
  · rw [firstI_find hk hh hbf]
    simp only
    rw [e] at HA
    clear hh hbf e
    have hki : (0 : Int) ≤ (k : Int) := by omega
    have hkn : (k : Int) < (ws.length : Int) := by omega
    have HT := Lib.hid (fun W (hW : CalAt W ⟨ws, tm, rm, .slice wa ws.length wc, .slice ta tm.length tc, .slice ra rm.length rc⟩) => contains_int team _ _ W (hW.wins.teams ws[k] (List.getElem_mem hk)))
    have HR := Lib.hid (fun W (hW : CalAt W ⟨ws, tm, rm, .slice wa ws.length wc, .slice ta tm.length tc, .slice ra rm.length rc⟩) => hW.wins.row hk)
    generalize ws[k] = y at *
    obtain ⟨yf, yt, yv, ys⟩ := y
    simp only at *
    generalize (ys.any fun y => decide (team = y)) = q at *
    go_enter Try.func47, Try.ntmps47
    go_wp2_with fail
    generalize w.alloc (.cells #[.slice wa ws.length wc, .slice ta tm.length tc, .slice ra rm.length rc] 25) = W0 at *
    refine (HA.out _ H0.out.cal).mono ?_
    rintro e w1 ⟨rfl, hb⟩
    have h1 := H0.out.later hb
    have c0 := h1.d0
    have H1 := Lib.hid h1
    clear hb h1
    obtain ⟨b, off, cap, hs, hbw, r0, r1, r2⟩ := HR.out _ H1.out.cal
    simp only [Value.slice.injEq] at hs
    obtain ⟨rfl, -, rfl⟩ := hs
    simp only at c0
    generalize ws.length = wn at *
    go_wp2_with fail
    refine (HT.out _ H1.out.cal).mono ?_
    rintro e w2 ⟨rfl, rfl⟩
    go_wp2_with fail
    go_ret
    exact ⟨rfl, H1.out.below⟩
  · rw [firstI_none hm]
    simp only
    rw [e] at HA
    clear hm e
    generalize ws.length = wn at *
    go_enter Try.func47, Try.ntmps47
    go_wp2_with fail
    generalize w.alloc (.cells #[.slice wa wn wc, .slice ta tm.length tc, .slice ra rm.length rc] 25) = W0 at *
    refine (HA.out _ H0.out.cal).mono ?_
    rintro e w1 ⟨rfl, hb⟩
    have H1 := Lib.hid (H0.out.later hb)
    clear hb
    go_wp2_with fail
    go_ret
    exact ⟨rfl, H1.out.below⟩
end Go.Proofs.Ytpbahffkhpfakaa

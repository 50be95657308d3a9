import Derived.Test.YtpbahffkhpfakaaWClo
import Derived.Laws.EntriesVeiled
namespace Go.Proofs.Ytpbahffkhpfakaa
open Go.RowKit
set_option linter.unusedSimpArgs false
set_option linter.unusedVariables false

/-! ## Check of a calendar -/

def checkF (c : Cal) (n : Int) : Int :=
  if 32 < c.wins.length ∨ 8 < c.room.length then 3
  else if (c.room.all fun n => inB n 0 24) = false then 2
  else if c.wins.all daysB = false then 47
  else if apartB c.wins = false ∨ (c.wins.all fun x => ascB x.ts) = false then 6
  else if (c.wins.all fun x => x.ts.all fun n => inB n 0 ((c.room.length : Int) - 1)) = false then 2
  else if (c.team.length : Int) ≠ n ∨ (c.team.all fun n => inB n 0 ((c.room.length : Int) - 1)) = false then 1
  else 0

theorem lift {P : Program} {f : FuncId} {args : Array Value} {W0 W : World} {E : Ending} (hb : Below W0.heap.size W0 W) (h : Calls P f args W fun e w' => e = E ∧ Below W.heap.size W w') :
    Calls P f args W fun e w' => e = E ∧ Below W0.heap.size W0 w' :=
  h.mono fun _ _ ⟨h1, h2⟩ => ⟨h1, hb.trans (h2.mono hb.size)⟩

structure Chk0 (w W0 : World) (ws : List Win) (tm rm : List Int) (wv tv rv : Value) : Prop where
  below : Below w.heap.size w W0
  hT : w.heap.size + 1 < W0.heap.size
  d0 : W0.cell? ⟨w.heap.size, 0, none⟩ = some wv
  d1 : W0.cell? ⟨w.heap.size, 1, none⟩ = some tv
  d2 : W0.cell? ⟨w.heap.size, 2, none⟩ = some rv
  dt : W0.cell? ⟨w.heap.size + 1, 0, none⟩ = some (.func (.func 33) #[] #[.pointer (some ⟨w.heap.size, 0, none⟩)])
  wins : WinsAt W0 wv ws
  team : IntsAt W0 tv tm
  room : IntsAt W0 rv rm
theorem chk0 (w : World) (ws : List Win) (tm rm : List Int) (wv tv rv : Value) (hw : WinsAt w wv ws) (ht : IntsAt w tv tm) (hr : IntsAt w rv rm) :
    Chk0 w ((w.alloc (.cells #[wv, tv, rv] 25)).alloc (.cells #[.func (.func 33) #[] #[.pointer (some ⟨w.heap.size, 0, none⟩)]] 64)) ws tm rm wv tv rv := by
  have hb1 : Below w.heap.size w ((w.alloc (.cells #[wv, tv, rv] 25)).alloc (.cells #[.func (.func 33) #[] #[.pointer (some ⟨w.heap.size, 0, none⟩)]] 64)) := ((Below.refl _ _).alloc (Nat.le_refl _) _).alloc (by simp) _
  refine ⟨hb1, by simp, by simp, by simp, by simp, ?_, hw.below hb1, ht.below hb1, hr.below hb1⟩
  have e : w.heap.size + 1 = (w.alloc (.cells #[wv, tv, rv] 25)).heap.size := by simp
  rw [e]
  exact World.cell?_alloc_at _ _ _ _ rfl
theorem Chk0.later {w W0 W : World} {ws : List Win} {tm rm : List Int} {wv tv rv : Value} (h : Chk0 w W0 ws tm rm wv tv rv) (hb : Below W0.heap.size W0 W) :
    W.cell? ⟨w.heap.size, 0, none⟩ = some wv ∧ W.cell? ⟨w.heap.size, 1, none⟩ = some tv ∧ W.cell? ⟨w.heap.size, 2, none⟩ = some rv ∧ W.cell? ⟨w.heap.size + 1, 0, none⟩ = some (.func (.func 33) #[] #[.pointer (some ⟨w.heap.size, 0, none⟩)]) :=
  have h1 : w.heap.size < W0.heap.size := Nat.lt_of_succ_lt h.hT
  ⟨(hb.cell (p := ⟨w.heap.size, 0, none⟩) h1).trans h.d0, (hb.cell (p := ⟨w.heap.size, 1, none⟩) h1).trans h.d1, (hb.cell (p := ⟨w.heap.size, 2, none⟩) h1).trans h.d2, (hb.cell (p := ⟨w.heap.size + 1, 0, none⟩) h.hT).trans h.dt⟩

set_option maxRecDepth 100000 in
set_option maxHeartbeats 4000000 in
theorem check_any (c : Cal) (n : Int) (w : World) (h : CalAt w c) :
    Calls Try.prog 14 #[c.val, .int .i64 n] w fun e w' => e = .returned (.int .i64 (checkF c n)) ∧ Below w.heap.size w w' := by
  obtain ⟨ws, tm, rm, wv, tv, rv⟩ := c
  obtain ⟨hw, ht, hr⟩ := h
  simp only at hw ht hr
  have hwl := hw.len
  have hrl := hr.1
  have htl := ht.1
  have H0 := Lib.hid (chk0 w ws tm rm wv tv rv hw ht hr)
  obtain ⟨wa, wc, rfl⟩ := hw.form
  obtain ⟨ta, tc, rfl⟩ := ht.form
  obtain ⟨ra, rc, rfl⟩ := hr.form
  unfold Cal.val
  obtain ⟨z, hz⟩ : ∃ z, z = checkF ⟨ws, tm, rm, .slice wa ws.length wc, .slice ta tm.length tc, .slice ra rm.length rc⟩ n := ⟨_, rfl⟩
  rw [← hz]
  unfold checkF at hz
  simp only at hz ⊢
  have hmf : ∀ (fn : Fn) (first cap : Array Value) (w : World), (Instr.makeFunc fn first cap).run Try.prog w = .ok (.func fn first cap) w := fun _ _ _ _ => rfl
  clear hw ht hr
  by_cases hbig : 32 < ws.length ∨ 8 < rm.length
  · rw [if_pos hbig] at hz
    subst hz
    generalize hwn : ws.length = wn at hwl hbig H0 ⊢
    generalize hrn : rm.length = rn at hrl hbig H0 ⊢
    generalize htn : tm.length = tn at htl H0 ⊢
    by_cases h32 : 32 < wn
    · have h32' : (32 : Int) < (wn : Int) := by omega
      go_enter Try.func14, Try.ntmps14
      go_wp2_with fail
      go_ret
      exact ⟨rfl, H0.out.below⟩
    · have h32' : ¬ (32 : Int) < (wn : Int) := by omega
      have h8 : (8 : Int) < (rn : Int) := by omega
      go_enter Try.func14, Try.ntmps14
      go_wp2_with fail
      go_ret
      exact ⟨rfl, H0.out.below⟩
  · rw [if_neg hbig] at hz
    have HZ := Lib.hid hz
    clear hz
    have h32' : ¬ (32 : Int) < (ws.length : Int) := by omega
    have h8 : ¬ (8 : Int) < (rm.length : Int) := by omega
    have hrl' : (rm.length : Int) ≤ 9223372036854775807 := by omega
    clear hbig
    go_enter Try.func14, Try.ntmps14
    go_wp2_with fail
    generalize ((w.alloc (.cells #[.slice wa ws.length wc, .slice ta tm.length tc, .slice ra rm.length rc] 25)).alloc (.cells #[.func (.func 33) #[] #[.pointer (some ⟨w.heap.size, 0, none⟩)]] 64)) = W0 at *
    have HF := Lib.hid (fun W (hb : Below W0.heap.size W0 W) => H0.out.later hb)
    have h1 : w.heap.size < W0.heap.size := Nat.lt_of_succ_lt H0.out.hT
    have HR := Lib.hid (fun W (hb : Below W0.heap.size W0 W) => lift hb (each_int _ 36 #[] (enters_of Try.func36 (by kernel_rfl) rfl) _ _ W (H0.out.room.below hb) (clo_room rm W)))
    have HD := Lib.hid (fun W (hb : Below W0.heap.size W0 W) => lift hb (each_win _ 38 #[] (enters_of Try.func38 (by kernel_rfl) rfl) _ _ W (H0.out.wins.below hb) (clo_days ws W)))
    have HA := Lib.hid (fun W (hb : Below W0.heap.size W0 W) => lift hb (apart_any _ _ W (H0.out.wins.below hb)))
    have HS := Lib.hid (fun W (hb : Below W0.heap.size W0 W) => lift hb (each_win _ 41 #[] (enters_of Try.func41 (by kernel_rfl) rfl) _ _ W (H0.out.wins.below hb) (clo_asc ws W (H0.out.wins.below hb).teams)))
    have HT := Lib.hid (fun W (hb : Below W0.heap.size W0 W) => lift hb (each_win _ 43 #[.pointer (some ⟨w.heap.size + 1, 0, none⟩)] (enters_of Try.func43 (by kernel_rfl) rfl) _ _ W (H0.out.wins.below hb) (clo_teams (w.heap.size + 1) w.heap.size ra rm.length rc ws W (Nat.lt_of_lt_of_le H0.out.hT hb.size) (H0.out.later hb).2.2.2 (Nat.lt_of_lt_of_le h1 hb.size) (H0.out.later hb).2.2.1 hrl' (H0.out.wins.below hb).teams)))
    have HM := Lib.hid (fun W (hb : Below W0.heap.size W0 W) => lift hb (each_int _ 33 #[.pointer (some ⟨w.heap.size, 0, none⟩)] (enters_of Try.func33 (by kernel_rfl) rfl) _ _ W (H0.out.team.below hb) (clo_team w.heap.size ra rm.length rc tm W (Nat.lt_of_lt_of_le h1 hb.size) (H0.out.later hb).2.2.1 hrl')))
    have HW := Lib.hid H0.out.below
    have HB0 := Lib.hid (Below.refl W0.heap.size W0)
    clear H0 h1 hrl'
    generalize (rm.all fun n => inB n 0 24) = q1 at *
    generalize ws.all daysB = q2 at *
    generalize apartB ws = q3 at *
    generalize (ws.all fun x => ascB x.ts) = q4 at *
    generalize (ws.all fun x => x.ts.all fun n => inB n 0 ((rm.length : Int) - 1)) = q5 at *
    generalize (tm.all fun n => inB n 0 ((rm.length : Int) - 1)) = q6 at *
    generalize ws.length = wn at *
    generalize rm.length = rn at *
    generalize tm.length = tn at *
    refine (HR.out _ HB0.out).mono ?_
    rintro e w1 ⟨rfl, hb⟩
    obtain ⟨c0, c1, c2, ct⟩ := HF.out _ hb
    have HB1 := Lib.hid hb
    clear hb
    cases q1
    · go_wp2_with fail
      go_ret
      exact ⟨by rw [HZ.out]; simp, HW.out.trans (HB1.out.mono HW.out.size)⟩
    · go_wp2_with fail
      refine (HD.out _ HB1.out).mono ?_
      rintro e w2 ⟨rfl, hb⟩
      obtain ⟨c0, c1, c2, ct⟩ := HF.out _ hb
      have HB2 := Lib.hid hb
      clear hb
      cases q2
      · go_wp2_with fail
        go_ret
        exact ⟨by rw [HZ.out]; simp, HW.out.trans (HB2.out.mono HW.out.size)⟩
      · go_wp2_with fail
        refine (HA.out _ HB2.out).mono ?_
        rintro e w3 ⟨rfl, hb⟩
        obtain ⟨c0, c1, c2, ct⟩ := HF.out _ hb
        have HB3 := Lib.hid hb
        clear hb
        cases q3
        · go_wp2_with fail
          go_ret
          exact ⟨by rw [HZ.out]; simp, HW.out.trans (HB3.out.mono HW.out.size)⟩
        · go_wp2_with fail
          refine (HS.out _ HB3.out).mono ?_
          rintro e w4 ⟨rfl, hb⟩
          obtain ⟨c0, c1, c2, ct⟩ := HF.out _ hb
          have HB4 := Lib.hid hb
          clear hb
          cases q4
          · go_wp2_with fail
            go_ret
            exact ⟨by rw [HZ.out]; simp, HW.out.trans (HB4.out.mono HW.out.size)⟩
          · go_wp2_with fail
            refine (HT.out _ HB4.out).mono ?_
            rintro e w5 ⟨rfl, hb⟩
            obtain ⟨c0, c1, c2, ct⟩ := HF.out _ hb
            have HB5 := Lib.hid hb
            clear hb
            cases q5
            · go_wp2_with fail
              go_ret
              exact ⟨by rw [HZ.out]; simp, HW.out.trans (HB5.out.mono HW.out.size)⟩
            · by_cases hn : (tn : Int) = n
              · subst hn
                have hne : ((tn : Int) == (tn : Int)) = true := by simp
                go_wp2_with fail
                refine (HM.out _ HB5.out).mono ?_
                rintro e w6 ⟨rfl, hb⟩
                have HB6 := Lib.hid hb
                clear hb
                cases q6
                · go_wp2_with fail
                  go_ret
                  exact ⟨by rw [HZ.out]; simp, HW.out.trans (HB6.out.mono HW.out.size)⟩
                · go_wp2_with fail
                  go_ret
                  exact ⟨by rw [HZ.out]; simp, HW.out.trans (HB6.out.mono HW.out.size)⟩
              · have hne : ((tn : Int) == n) = false := by simpa using hn
                go_wp2_with fail
                go_ret
                exact ⟨by rw [HZ.out]; simp [hn], HW.out.trans (HB5.out.mono HW.out.size)⟩
end Go.Proofs.Ytpbahffkhpfakaa

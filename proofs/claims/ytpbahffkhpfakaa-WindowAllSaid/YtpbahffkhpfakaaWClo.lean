import Derived.Test.YtpbahffkhpfakaaWAsc
namespace Go.Proofs.Ytpbahffkhpfakaa
open Go.RowKit
set_option linter.unusedSimpArgs false
set_option linter.unusedVariables false

/-! ## Calendars, and the closures that Check asks of their parts -/

structure Cal where
  wins : List Win
  team : List Int
  room : List Int
  wv : Value
  tv : Value
  rv : Value

def Cal.val (c : Cal) : Value := .agg #[c.wv, c.tv, c.rv]

structure CalAt (w : World) (c : Cal) : Prop where
  wins : WinsAt w c.wv c.wins
  team : IntsAt w c.tv c.team
  room : IntsAt w c.rv c.room
theorem CalAt.below {w w' : World} {c : Cal} (h : CalAt w c) (hb : Below w.heap.size w w') : CalAt w' c := ⟨h.wins.below hb, h.team.below hb, h.room.below hb⟩

def daysB (x : Win) : Bool := decide (0 ≤ x.frm) && (decide (x.frm < x.til) && decide (x.til ≤ 40001))

theorem i64_len (n : Nat) (h : (n : Int) ≤ 9223372036854775807) : IntKind.i64.wrap ((n : Int) - 1) = (n : Int) - 1 := IntWalk.i64_in _ (by omega)

theorem days_any (f t : Int) (w : World) :
    Calls Try.prog 39 #[.agg #[.int .i64 f, .int .i64 t]] w fun e w' => e = .returned (.bool (decide (0 ≤ f) && (decide (f < t) && decide (t ≤ 40001)))) ∧ Below w.heap.size w w' := by
  go_enter Try.func39, Try.ntmps39
  go_wp2
  all_goals
    go_ret
    refine ⟨?_, (Below.refl _ _).alloc (Nat.le_refl _) _⟩
    first | (simp_all; done) | (simp_all; omega)

theorem clo_team (B : Nat) (ra : Option Addr) (rn rc : Nat) (l : List Int) (w : World) (hB : B < w.heap.size) (hc : w.cell? ⟨B, 2, none⟩ = some (.slice ra rn rc)) (hr : (rn : Int) ≤ 9223372036854775807) :
    PredOn 33 #[.pointer (some ⟨B, 0, none⟩)] (Value.int .i64) (fun n => inB n 0 ((rn : Int) - 1)) l w := fun W x hx hb => by
  have hc2 : W.cell? ⟨B, 2, none⟩ = some (.slice ra rn rc) := (hb.cell (p := ⟨B, 2, none⟩) hB).trans hc
  have hw := i64_len rn hr
  clear hc hb hx
  show Calls Try.prog 33 #[.int .i64 x, .pointer (some ⟨B, 0, none⟩)] W fun e w' => e = .returned (.bool (inB x 0 ((rn : Int) - 1))) ∧ Below W.heap.size W w'
  go_enter Try.func33, Try.ntmps33
  go_wp2_with (go_at_call 34; refine (in_any _ _ _ _).mono ?_; rintro e w' ⟨rfl, rfl⟩)
  go_ret
  exact ⟨by first | rfl | simp_all, Below.refl _ _⟩

theorem clo_room (l : List Int) (w : World) : PredOn 36 #[] (Value.int .i64) (fun n => inB n 0 24) l w := fun W x hx hb => by
  show Calls Try.prog 36 #[.int .i64 x] W fun e w' => e = .returned (.bool (inB x 0 24)) ∧ Below W.heap.size W w'
  clear hb hx
  go_enter Try.func36, Try.ntmps36
  go_wp2_with (go_at_call 34; refine (in_any _ _ _ _).mono ?_; rintro e w' ⟨rfl, rfl⟩)
  go_ret
  exact ⟨rfl, Below.refl _ _⟩

theorem clo_days (l : List Win) (w : World) : PredOn 38 #[] Win.val daysB l w := fun W x hx hb => by
  show Calls Try.prog 38 #[.agg #[.int .i64 x.frm, .int .i64 x.til, x.tv]] W fun e w' => e = .returned (.bool (decide (0 ≤ x.frm) && (decide (x.frm < x.til) && decide (x.til ≤ 40001)))) ∧ Below W.heap.size W w'
  clear hb hx
  go_enter Try.func38, Try.ntmps38
  go_wp2_with (go_at_call 39; refine (days_any _ _ _).mono ?_; rintro e w' ⟨rfl, hb'⟩)
  go_ret
  exact ⟨rfl, ((Below.refl _ _).alloc (Nat.le_refl _) _).trans (hb'.mono (by simp))⟩

theorem clo_asc (l : List Win) (w : World) (ht : ∀ x ∈ l, IntsAt w x.tv x.ts) : PredOn 41 #[] Win.val (fun x => ascB x.ts) l w := fun W x hx hb => by
  show Calls Try.prog 41 #[.agg #[.int .i64 x.frm, .int .i64 x.til, x.tv]] W fun e w' => e = .returned (.bool (ascB x.ts)) ∧ Below W.heap.size W w'
  have hb2 : Below W.heap.size W (W.alloc (.cells #[.int .i64 x.frm, .int .i64 x.til, x.tv] 58)) := (Below.refl _ _).alloc (Nat.le_refl _) _
  have hi := asc_any _ _ _ (((ht x hx).below hb).below hb2)
  have HI := Lib.hid hi
  have HB := Lib.hid hb2
  clear hb hx ht hi hb2
  go_enter Try.func41, Try.ntmps41
  go_wp2_with (go_at_call 42; refine HI.out.mono ?_; rintro e w' ⟨rfl, hb'⟩)
  go_ret
  exact ⟨rfl, HB.out.trans (hb'.mono HB.out.size)⟩

theorem clo_teams (T B : Nat) (ra : Option Addr) (rn rc : Nat) (l : List Win) (w : World) (hT : T < w.heap.size) (hTc : w.cell? ⟨T, 0, none⟩ = some (.func (.func 33) #[] #[.pointer (some ⟨B, 0, none⟩)])) (hB : B < w.heap.size) (hc : w.cell? ⟨B, 2, none⟩ = some (.slice ra rn rc)) (hr : (rn : Int) ≤ 9223372036854775807) (ht : ∀ x ∈ l, IntsAt w x.tv x.ts) :
    PredOn 43 #[.pointer (some ⟨T, 0, none⟩)] Win.val (fun x => x.ts.all fun n => inB n 0 ((rn : Int) - 1)) l w := fun W x hx hb => by
  show Calls Try.prog 43 #[.agg #[.int .i64 x.frm, .int .i64 x.til, x.tv], .pointer (some ⟨T, 0, none⟩)] W fun e w' => e = .returned (.bool (x.ts.all fun n => inB n 0 ((rn : Int) - 1))) ∧ Below W.heap.size W w'
  have hb2 : Below W.heap.size W (W.alloc (.cells #[.int .i64 x.frm, .int .i64 x.til, x.tv] 58)) := (Below.refl _ _).alloc (Nat.le_refl _) _
  have hTW : T < W.heap.size := Nat.lt_of_lt_of_le hT hb.size
  have hTc2 : W.cell? ⟨T, 0, none⟩ = some (.func (.func 33) #[] #[.pointer (some ⟨B, 0, none⟩)]) := (hb.cell (p := ⟨T, 0, none⟩) hT).trans hTc
  have hne : T ≠ W.heap.size := by omega
  have hp := (clo_team B ra rn rc x.ts w hB hc hr).later hb
  have hi := each_int _ 33 #[.pointer (some ⟨B, 0, none⟩)] (enters_of Try.func33 (by kernel_rfl) rfl) x.tv x.ts _ (((ht x hx).below hb).below hb2) (hp.later hb2)
  have HI := Lib.hid hi
  have HB := Lib.hid hb2
  clear hb hx ht hi hb2 hp hTc hc hB hT
  generalize (x.ts.all fun n => inB n 0 ((rn : Int) - 1)) = q at *
  go_enter Try.func43, Try.ntmps43
  go_wp2_with (go_at_call 35; refine HI.out.mono ?_; rintro e w' ⟨rfl, hb'⟩)
  go_ret
  exact ⟨rfl, HB.out.trans (hb'.mono HB.out.size)⟩
end Go.Proofs.Ytpbahffkhpfakaa

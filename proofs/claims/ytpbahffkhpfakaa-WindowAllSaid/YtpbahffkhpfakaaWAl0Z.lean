import Derived.Test.YtpbahffkhpfakaaZ3
import Derived.Test.YtpbahffkhpfakaaZ4
import Derived.Test.YtpbahffkhpfakaaRErZ
import Derived.Test.YtpbahffkhpfakaaRFsZ
import Derived.Test.YtpbahffkhpfakaaRSameZ
import Derived.Test.YtpbahffkhpfakaaWEarZ
import Derived.Test.YtpbahffkhpfakaaWFitZ
namespace Go.Proofs.Ytpbahffkhpfakaa
open Go.RowKit
set_option linter.unusedSimpArgs false
set_option linter.unusedVariables false

/-! ## The program and the reference answer the same, at any calendar -/

def Two (f g : Nat) (args : Array Value) (W0 : World) (q : Value) : Prop := ∀ W, Below W0.heap.size W0 W →
  (Calls Try.prog f args W fun e w' => e = .returned q ∧ Below W.heap.size W w') ∧ (Calls Try.prog g args W fun e w' => e = .returned q ∧ Below W.heap.size W w')
def ListsOk (W0 : World) (v1 v2 : Value) : Prop := ∃ ts ds, IntsAt W0 v1 ts ∧ IntsAt W0 v2 ds ∧ NilOk v1
theorem ListsOk.below {W0 W : World} {v1 v2 : Value} (h : ListsOk W0 v1 v2) (hb : Below W0.heap.size W0 W) : ListsOk W v1 v2 := by
  obtain ⟨ts, ds, h1, h2, h3⟩ := h
  exact ⟨ts, ds, h1.below hb, h2.below hb, h3⟩
def TwoLoad (W0 : World) (v v1 v2 : Value) (x : Int) (n nr : Nat) (F : Nat → Nat → Int) : Prop := ∀ W, Below W0.heap.size W0 W →
  (Calls Try.prog 25 #[v, v1, v2] W fun e w' => ∃ a m, e = .returned (.tuple #[.slice a n m, .int .i64 x]) ∧ RowsAt w' (.slice a n m) n nr F ∧ Below W.heap.size W w') ∧
  (Calls Try.prog 26 #[v, v1, v2] W fun e w' => ∃ a m, e = .returned (.tuple #[.slice a n m, .int .i64 x]) ∧ RowsAt w' (.slice a n m) n nr F ∧ Below W.heap.size W w')
structure Both (W0 : World) (v : Value) : Prop where
  check : ∀ n : Int, ∃ k : Int, Two 14 15 #[v, .int .i64 n] W0 (.int .i64 k)
  at_ : ∀ n : Int, ∃ (i : Int) (b : Bool) (e : Int), Two 17 18 #[v, .int .i64 n] W0 (.tuple #[.int .i64 i, .bool b, .int .i64 e])
  may : ∀ t n : Int, ∃ (b : Bool) (e : Int), Two 19 20 #[v, .int .i64 t, .int .i64 n] W0 (.tuple #[.bool b, .int .i64 e])
  next : ∀ t n : Int, ∃ (d : Int) (b : Bool) (e : Int), Two 21 22 #[v, .int .i64 t, .int .i64 n] W0 (.tuple #[.int .i64 d, .bool b, .int .i64 e])
  earl : ∀ v1 v2, ListsOk W0 v1 v2 → ∀ t n : Int, ∃ (d : Int) (b : Bool) (e : Int), Two 23 24 #[v, v1, v2, .int .i64 t, .int .i64 n] W0 (.tuple #[.int .i64 d, .bool b, .int .i64 e])
  load : ∀ v1 v2, ListsOk W0 v1 v2 → ∃ (x : Int) (n nr : Nat) (F : Nat → Nat → Int), TwoLoad W0 v v1 v2 x n nr F
  fits : ∀ v1 v2, ListsOk W0 v1 v2 → ∃ x : Int, Two 28 29 #[v, v1, v2] W0 (.int .i64 x)
theorem rows_form {w : World} {v : Value} {n nr : Nat} {F : Nat → Nat → Int} (h : RowsAt w v n nr F) : ∃ a m, v = .slice a n m := by
  obtain ⟨_, a, m, e, _⟩ := h
  exact ⟨a, m, e⟩
theorem loadOut_rows {c : Cal} {ts ds : List Int} {W : World} {e : Ending} {w' : World} (h : WLoadOut c ts ds W e w') (h0 : loadE c ts ds [] = 0) :
    ∃ a m, e = .returned (.tuple #[.slice a c.wins.length m, .int .i64 0]) ∧ RowsAt w' (.slice a c.wins.length m) c.wins.length c.room.length (fun i t => loadN c (ts.zip ds) (i * 8 + t)) ∧ Below W.heap.size W w' := by
  obtain ⟨v, s, gs, F, rfl, hs, hO, hg, hF, hb⟩ := h
  have h32 := (ok0_of (loadE_zero h0)).wins
  have h8 := (ok0_of (loadE_zero h0)).room
  have hr := hO.rowsAt (G := fun i t => loadN c (ts.zip ds) (i * 8 + t)) (by omega) fun i t hi ht => hF i t (by omega) ht
  rw [hg] at hr
  obtain ⟨a, m, rfl⟩ := rows_form hr
  exact ⟨a, m, rfl, hr, hb⟩
theorem both_of {W0 : World} {c : Cal} (h : CalAt W0 c) : Both W0 c.val := by
  refine ⟨fun n => ⟨_, fun W hW => ⟨check_any c n W (h.below hW), rcheck_any c n W (h.below hW)⟩⟩, fun n => ?_, fun t n => ?_, fun t n => ?_, fun v1 v2 hl t n => ?_, fun v1 v2 hl => ?_, fun v1 v2 hl => ?_⟩
  · have k1 := fun W hW => wat_any c n W (h.below hW)
    have k2 := fun W hW => rAt_any c n W (h.below hW)
    unfold atR at k1 k2
    by_cases h0 : checkF c c.team.length = 0
    · simp only [if_neg (show ¬ checkF c c.team.length ≠ 0 by rw [h0]; simp)] at k1 k2
      exact ⟨_, _, _, fun W hW => ⟨k1 W hW, k2 W hW⟩⟩
    · simp only [if_pos (show checkF c c.team.length ≠ 0 from h0)] at k1 k2
      exact ⟨_, _, _, fun W hW => ⟨k1 W hW, k2 W hW⟩⟩
  · have k1 := fun W hW => wMay_any c t n W (h.below hW)
    have k2 := fun W hW => rMay_any c t n W (h.below hW)
    unfold mayR at k1 k2
    by_cases h0 : teamE c t = 0
    · simp only [if_neg (show ¬ teamE c t ≠ 0 by rw [h0]; simp)] at k1 k2
      exact ⟨_, _, fun W hW => ⟨k1 W hW, k2 W hW⟩⟩
    · simp only [if_pos (show teamE c t ≠ 0 from h0)] at k1 k2
      exact ⟨_, _, fun W hW => ⟨k1 W hW, k2 W hW⟩⟩
  · have k1 := fun W hW => wNext_any c t n W (h.below hW)
    have k2 := fun W hW => rNext_any c t n W (h.below hW)
    unfold nextR at k1 k2
    by_cases h0 : teamE c t = 0
    · simp only [if_neg (show ¬ teamE c t ≠ 0 by rw [h0]; simp)] at k1 k2
      exact ⟨_, _, _, fun W hW => ⟨k1 W hW, k2 W hW⟩⟩
    · simp only [if_pos (show teamE c t ≠ 0 from h0)] at k1 k2
      exact ⟨_, _, _, fun W hW => ⟨k1 W hW, k2 W hW⟩⟩
  · obtain ⟨ts, ds, h1, h2, h3⟩ := hl
    exact ⟨_, _, _, fun W hW => ⟨earliest_any c v1 v2 ts ds t n W (h.below hW) (h1.below hW) (h2.below hW) h3, rearl_any c v1 v2 ts ds t n W (h.below hW) (h1.below hW) (h2.below hW)⟩⟩
  · obtain ⟨ts, ds, h1, h2, h3⟩ := hl
    by_cases h0 : loadE c ts ds [] = 0
    · exact ⟨0, c.wins.length, c.room.length, _, fun W hW => ⟨(wload_ok c v1 v2 ts ds W (h.below hW) (h1.below hW) (h2.below hW) h3 h0).mono fun e w' hx => loadOut_rows hx h0, (rLoad_ok c v1 v2 ts ds W (h.below hW) (h1.below hW) (h2.below hW) h0).mono fun e w' hx => loadOut_rows hx h0⟩⟩
    · exact ⟨loadE c ts ds [], 0, 0, fun _ _ => 0, fun W hW => ⟨(wload_err c v1 v2 ts ds W (h.below hW) (h1.below hW) (h2.below hW) h3 h0).mono fun e w' hx => ⟨none, 0, hx.1, RowsAt.nil _ _, hx.2⟩, (rLoad_err c v1 v2 ts ds W (h.below hW) (h1.below hW) (h2.below hW) h0).mono fun e w' hx => ⟨none, 0, hx.1, RowsAt.nil _ _, hx.2⟩⟩⟩
  · obtain ⟨ts, ds, h1, h2, h3⟩ := hl
    exact ⟨_, fun W hW => ⟨fits_any c v1 v2 ts ds W (h.below hW) (h1.below hW) (h2.below hW) h3, rfits_any c v1 v2 ts ds W (h.below hW) (h1.below hW) (h2.below hW)⟩⟩
end Go.Proofs.Ytpbahffkhpfakaa


import Derived.Test.YtpjcaanlagibpaaValid
import Derived.RegionTactic
import Derived.IntWalk
namespace Go.Proofs.Ytpjcaanlagibpaa
open Go.RowKit
set_option linter.unusedSimpArgs false
set_option linter.unusedVariables false

/-- a decision as plain numbers -/
structure Dec where
  day : Int
  known : Int
  kind : Int
  subject : Int
  value : Int
  deriving DecidableEq

def Dec.val (d : Dec) : Value := .agg #[.int .i64 d.day, .int .i64 d.known, .int .i64 d.kind, .int .i64 d.subject, .int .i64 d.value]
def Dec.ok (d : Dec) : Bool := validB d.day d.known d.kind d.subject d.value

/-- follows where nothing is before -/
theorem follows_bad (a : Option Addr) (len cap : Nat) (d k c s v : Int) (w : World) (h : validB d k c s v = false) :
    Calls Try.prog 58 #[.slice a len cap, .agg #[.int .i64 d, .int .i64 k, .int .i64 c, .int .i64 s, .int .i64 v]] w fun e w' => e = .returned (.int .i64 57) ∧ Below w.heap.size w w' := by
  go_enter Try.func58, Try.ntmps58
  go_wp2_with (go_at_call 71; refine (valid_any _ _ _ _ _ _).mono ?_; rintro e w' ⟨rfl, rfl⟩)
  go_ret
  exact ⟨rfl, ((Below.refl _ _).alloc (Nat.le_refl _) _).alloc (by simp) _⟩

theorem follows_first (a : Option Addr) (cap : Nat) (d k c s v : Int) (w : World) (h : validB d k c s v = true) :
    Calls Try.prog 58 #[.slice a 0 cap, .agg #[.int .i64 d, .int .i64 k, .int .i64 c, .int .i64 s, .int .i64 v]] w fun e w' => e = .returned (.int .i64 0) ∧ Below w.heap.size w w' := by
  go_enter Try.func58, Try.ntmps58
  go_wp2_with (go_at_call 71; refine (valid_any _ _ _ _ _ _).mono ?_; rintro e w' ⟨rfl, rfl⟩)
  go_quiet (fail)
  go_wp2
  go_ret
  exact ⟨rfl, below_drewN (((Below.refl _ _).alloc (Nat.le_refl _) _).alloc (by simp) _) _⟩

set_option maxRecDepth 100000 in
set_option maxHeartbeats 1000000 in
theorem follows_next (b off n cap : Nat) (dd kk : Int) (d k c s v : Int) (w : World) (h : validB d k c s v = true) (hp : (0 : Int) < (n : Int)) (hn : (n : Int) < 1000000000)
    (h0 : w.cell? ⟨b, off + (n - 1) * 5, none⟩ = some (.int .i64 dd)) (h1 : w.cell? ⟨b, off + (n - 1) * 5 + 1, none⟩ = some (.int .i64 kk)) :
    Calls Try.prog 58 #[.slice (some ⟨b, off, none⟩) n cap, .agg #[.int .i64 d, .int .i64 k, .int .i64 c, .int .i64 s, .int .i64 v]] w fun e w' => e = .returned (.int .i64 (if d < dd ∨ k < kk then 6 else 0)) ∧ Below w.heap.size w w' := by
  have hp2 : 0 < n := by omega
  have hb : b < w.heap.size := World.block_lt_of_cell? w ⟨b, off + (n - 1) * 5, none⟩ h0
  have hi0 : (0 : Int) ≤ (n : Int) - 1 := by omega
  have hi2 : (1 : Int) ≤ (n : Int) := by omega
  have hi1 : (n : Int) - 1 < (n : Int) := by omega
  have hw1 : IntKind.i64.wrap ((n : Int) - 1) = (n : Int) - 1 := IntWalk.i64_in _ (by omega)
  have hw2 : ((n : Int) - 1).toNat = n - 1 := by omega
  by_cases hd : d < dd
  · go_enter Try.func58, Try.ntmps58
    go_wp2_with (go_at_call 71; refine (valid_any _ _ _ _ _ _).mono ?_; rintro e w' ⟨rfl, rfl⟩)
    refine wp_region_quiet_lit (by kernel_rfl) (by kernel_rfl) ?_
    repeat (any_goals (first | go_big_quiet_step (fail) | quiet_step (fail)))
    refine wpQuiet_nil ?_; intro _ hw'; obtain ⟨nq, hw''⟩ := hw'; subst hw''
    clear hw1 hw2 hi0 hi1 hi2 hp hp2 hn h0 h1 hb
    go_wp2
    go_ret
    exact ⟨by simp [hd], below_drewN (((Below.refl _ _).alloc (Nat.le_refl _) _).alloc (by simp) _) _⟩
  · by_cases hk : k < kk
    · go_enter Try.func58, Try.ntmps58
      go_wp2_with (go_at_call 71; refine (valid_any _ _ _ _ _ _).mono ?_; rintro e w' ⟨rfl, rfl⟩)
      refine wp_region_quiet_lit (by kernel_rfl) (by kernel_rfl) ?_
      repeat (any_goals (first | go_big_quiet_step (fail) | quiet_step (fail)))
      refine wpQuiet_nil ?_; intro _ hw'; obtain ⟨nq, hw''⟩ := hw'; subst hw''
      clear hw1 hw2 hi0 hi1 hi2 hp hp2 hn h0 h1 hb
      go_wp2
      go_ret
      exact ⟨by simp [hd, hk], below_drewN (((Below.refl _ _).alloc (Nat.le_refl _) _).alloc (by simp) _) _⟩
    · go_enter Try.func58, Try.ntmps58
      go_wp2_with (go_at_call 71; refine (valid_any _ _ _ _ _ _).mono ?_; rintro e w' ⟨rfl, rfl⟩)
      refine wp_region_quiet_lit (by kernel_rfl) (by kernel_rfl) ?_
      repeat (any_goals (first | go_big_quiet_step (fail) | quiet_step (fail)))
      refine wpQuiet_nil ?_; intro _ hw'; obtain ⟨nq, hw''⟩ := hw'; subst hw''
      clear hw1 hw2 hi0 hi1 hi2 hp hp2 hn h0 h1 hb
      go_wp2
      go_ret
      exact ⟨by simp [hd, hk], below_drewN (((Below.refl _ _).alloc (Nat.le_refl _) _).alloc (by simp) _) _⟩
end Go.Proofs.Ytpjcaanlagibpaa

import Derived.Test.YtiognfhjmcbbpaaDoorCStr
namespace Go.Proofs.YtiognfhjmcbbpaaDoor
open Go.RowKit
set_option linter.unusedSimpArgs false
set_option linter.unusedVariables false

/-! ## Strength, Valid -/

def strF (a b : Int) : Int :=
  if a = 5 ∨ a = 6 ∨ a = 10 ∨ a = 11 then modF b
  else if a = 7 ∨ a = 12 then (if b = 160 ∨ b = 224 ∨ b = 256 ∨ b = 384 ∨ b = 521 then b / 2 else 0)
  else if (1 ≤ a ∧ a ≤ 22) ∧ b = 0 then (algRow a.toNat).2.2 else fixF a b
def useV (a b : Int) : Value := .agg #[.int .i64 a, .int .i64 b]

set_option maxRecDepth 100000 in
set_option maxHeartbeats 2000000 in
theorem strength_mod (a b : Int) (w : World) (ha : a = 5 ∨ a = 6 ∨ a = 10 ∨ a = 11) :
    Calls Tryd.prog 19 #[.agg #[.int .i64 a, .int .i64 b]] w fun e w' => e = .returned (.int .i64 (modF b)) ∧ Below w.heap.size w w' := by
  have HM := Lib.hid (fun W => modular_any b W)
  rcases ha with rfl | rfl | rfl | rfl
  all_goals
    go_enter Tryd.func19, Tryd.ntmps19
    go_wp2_with fail
    refine (HM.out _).mono ?_
    rintro e w1 ⟨rfl, rfl⟩
    go_wp2_with fail
    go_ret
    exact ⟨rfl, (Below.refl _ _).alloc (Nat.le_refl _) _⟩
set_option maxRecDepth 100000 in
set_option maxHeartbeats 2000000 in
theorem strength_ec (a b : Int) (w : World) (ha : a = 7 ∨ a = 12) (hb : b = 160 ∨ b = 224 ∨ b = 256 ∨ b = 384 ∨ b = 521) :
    Calls Tryd.prog 19 #[.agg #[.int .i64 a, .int .i64 b]] w fun e w' => e = .returned (.int .i64 (b / 2)) ∧ Below w.heap.size w w' := by
  rcases ha with rfl | rfl
  all_goals
    rcases hb with rfl | rfl | rfl | rfl | rfl
    all_goals
      go_enter Tryd.func19, Tryd.ntmps19
      go_wp2_with fail
      go_ret
      exact ⟨rfl, (Below.refl _ _).alloc (Nat.le_refl _) _⟩
set_option maxRecDepth 100000 in
set_option maxHeartbeats 2000000 in
theorem strength_ec0 (a b : Int) (w : World) (ha : a = 7 ∨ a = 12) (h1 : ¬ b = 160) (h2 : ¬ b = 224) (h3 : ¬ b = 256) (h4 : ¬ b = 384) (h5 : ¬ b = 521) :
    Calls Tryd.prog 19 #[.agg #[.int .i64 a, .int .i64 b]] w fun e w' => e = .returned (.int .i64 0) ∧ Below w.heap.size w w' := by
  rcases ha with rfl | rfl
  all_goals
    go_enter Tryd.func19, Tryd.ntmps19
    go_wp2_with fail
    go_ret
    exact ⟨rfl, (Below.refl _ _).alloc (Nat.le_refl _) _⟩
set_option maxRecDepth 100000 in
set_option maxHeartbeats 2000000 in
theorem strength_tab (k : Nat) (w : World) (hk : 1 ≤ k ∧ k ≤ 22) (ht : AlgAt w) (h1 : ¬ (k : Int) = 5) (h2 : ¬ (k : Int) = 6) (h3 : ¬ (k : Int) = 10) (h4 : ¬ (k : Int) = 11) (h5 : ¬ (k : Int) = 7) (h6 : ¬ (k : Int) = 12) :
    Calls Tryd.prog 19 #[.agg #[.int .i64 k, .int .i64 0]] w fun e w' => e = .returned (.int .i64 (algRow k).2.2) ∧ Below w.heap.size w w' := by
  have HK := Lib.hid (fun W => known_any k W)
  have hd : decide (1 ≤ (k : Int) ∧ (k : Int) ≤ 22) = true := decide_eq_true (by omega)
  rw [hd] at HK
  have hb : Below w.heap.size w (w.alloc (.cells #[.int .i64 k, .int .i64 0] 23)) := (Below.refl _ _).alloc (Nat.le_refl _) _
  obtain ⟨_, _, hc⟩ := (ht.below hb) k (by omega)
  have HC := Lib.hid hc
  have HB := Lib.hid hb
  have hk23 : (k : Int) < 23 := by omega
  generalize (algRow k).2.2 = z at *
  clear hd hc hb ht
  go_enter Tryd.func19, Tryd.ntmps19
  go_wp2_with fail
  refine (HK.out _).mono ?_
  rintro e w1 ⟨rfl, rfl⟩
  have hc := HC.out
  go_wp2_with fail
  go_ret
  exact ⟨rfl, HB.out⟩
end Go.Proofs.YtiognfhjmcbbpaaDoor

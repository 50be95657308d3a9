import Derived.Test.YtiognfhjmcbbpaaDoorCTab
import Derived.Test.YtiognfhjmcbbpaaDoorProg
import Derived.WalkKit
import Derived.LoopTactic
import Derived.Outline
import Derived.WalkSpells
import Derived.WalkLawsBesides
import Derived.IntWalk
import Derived.WalkSmall
namespace Go.Proofs.YtiognfhjmcbbpaaDoor
open Go.RowKit
set_option linter.unusedSimpArgs false
set_option linter.unusedVariables false

/-! ## Strengths -/

theorem known_any (a : Int) (w : World) :
    Calls Tryd.prog 37 #[.int .i64 a] w fun e w' => e = .returned (.bool (decide (1 ≤ a ∧ a ≤ 22))) ∧ w = w' := by
  by_cases h1 : 1 ≤ a
  · by_cases h2 : a ≤ 22
    · rw [decide_eq_true ⟨h1, h2⟩]
      go_enter Tryd.func37, Tryd.ntmps37
      go_wp2
      go_ret
      exact ⟨rfl, rfl⟩
    · rw [decide_eq_false (fun h => h2 h.2)]
      go_enter Tryd.func37, Tryd.ntmps37
      go_wp2
      go_ret
      exact ⟨rfl, rfl⟩
  · rw [decide_eq_false (fun h => h1 h.1)]
    go_enter Tryd.func37, Tryd.ntmps37
    go_wp2
    go_ret
    exact ⟨rfl, rfl⟩

def modF (b : Int) : Int :=
  if b < 512 ∨ 16384 < b then 0 else if b < 1024 then 56 else if b < 2048 then 80 else if b < 3072 then 112 else if b < 7680 then 128 else if b < 15360 then 192 else 256
set_option maxRecDepth 100000 in
theorem modular_any (b : Int) (w : World) :
    Calls Tryd.prog 39 #[.int .i64 b] w fun e w' => e = .returned (.int .i64 (modF b)) ∧ w = w' := by
  obtain ⟨q, hq⟩ : ∃ q, q = modF b := ⟨_, rfl⟩
  rw [← hq]
  have HQ := Lib.hid hq
  clear hq
  go_enter Tryd.func39, Tryd.ntmps39
  go_wp2
  all_goals (go_ret; refine ⟨congrArg (fun x => Ending.returned (.int .i64 x)) ?_, rfl⟩; have hz := HQ.out; unfold modF at hz; (repeat' split at hz) <;> omega)

def fixF (a b : Int) : Int :=
  if a = 14 ∧ b = 40 then 40 else if a = 14 ∧ b = 128 then 60 else if a = 15 ∧ b = 112 then 80 else if a = 15 ∧ b = 168 then 112
  else if (a = 9 ∧ b = 44) ∨ (a = 13 ∧ b = 512) ∨ (a = 16 ∧ b = 128) ∨ (a = 17 ∧ b = 128) then 128
  else if (a = 9 ∧ b = 65) ∨ (a = 13 ∧ b = 768) then 192
  else if (a = 9 ∧ b = 87) ∨ (a = 13 ∧ b = 1024) ∨ (a = 16 ∧ b = 256) ∨ (a = 17 ∧ b = 256) then 256 else 0
set_option maxRecDepth 100000 in
set_option maxHeartbeats 2000000 in
theorem fixed_any (a b : Int) (w : World) :
    Calls Tryd.prog 40 #[.agg #[.int .i64 a, .int .i64 b]] w fun e w' => e = .returned (.int .i64 (fixF a b)) ∧ Below w.heap.size w w' := by
  obtain ⟨q, hq⟩ : ∃ q, q = fixF a b := ⟨_, rfl⟩
  rw [← hq]
  have HQ := Lib.hid hq
  clear hq
  go_enter Tryd.func40, Tryd.ntmps40
  go_wp2
  all_goals (go_ret; refine ⟨congrArg (fun x => Ending.returned (.int .i64 x)) ?_, (Below.refl _ _).alloc (Nat.le_refl _) _⟩; have hz := HQ.out; unfold fixF at hz; (repeat' split at hz) <;> omega)
end Go.Proofs.YtiognfhjmcbbpaaDoor

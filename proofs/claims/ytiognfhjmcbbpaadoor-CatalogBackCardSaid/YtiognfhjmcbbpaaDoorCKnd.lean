import Derived.Test.YtiognfhjmcbbpaaDoorCSt3
namespace Go.Proofs.YtiognfhjmcbbpaaDoor
open Go.RowKit
set_option linter.unusedSimpArgs false
set_option linter.unusedVariables false

/-! ## Kind -/

def kindF (a : Int) : Int := if 1 ≤ a ∧ a ≤ 22 then (algRow a.toNat).2.1 else 0
set_option maxRecDepth 100000 in
theorem kind_any (a : Int) (w : World) (ht : AlgAt w) :
    Calls Tryd.prog 15 #[.int .i64 a] w fun e w' => e = .returned (.int .i64 (kindF a)) ∧ w = w' := by
  have HK := Lib.hid (fun W => known_any a W)
  unfold kindF
  by_cases c : 1 ≤ a ∧ a ≤ 22
  · rw [if_pos c]
    rw [decide_eq_true c] at HK
    obtain ⟨k, rfl⟩ : ∃ k : Nat, a = (k : Int) := ⟨a.toNat, by omega⟩
    rw [Int.toNat_natCast]
    obtain ⟨_, hc, _⟩ := ht k (by omega)
    have hk23 : (k : Int) < 23 := by omega
    generalize (algRow k).2.1 = z at *
    clear ht c
    go_enter Tryd.func15, Tryd.ntmps15
    go_wp2_with fail
    refine (HK.out _).mono ?_
    rintro e w1 ⟨rfl, rfl⟩
    go_wp2_with fail
    go_ret
    exact ⟨rfl, rfl⟩
  · rw [if_neg c]
    rw [decide_eq_false c] at HK
    clear ht
    go_enter Tryd.func15, Tryd.ntmps15
    go_wp2_with fail
    refine (HK.out _).mono ?_
    rintro e w1 ⟨rfl, rfl⟩
    go_wp2_with fail
    go_ret
    exact ⟨rfl, rfl⟩
end Go.Proofs.YtiognfhjmcbbpaaDoor

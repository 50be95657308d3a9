import Derived.Test.YtiognfhjmcbbpaaDoorCSt2
namespace Go.Proofs.YtiognfhjmcbbpaaDoor
open Go.RowKit
set_option linter.unusedSimpArgs false
set_option linter.unusedVariables false

set_option maxRecDepth 100000 in
set_option maxHeartbeats 2000000 in
theorem strength_fix (a b : Int) (w : World) (hn : ¬ ((1 ≤ a ∧ a ≤ 22) ∧ b = 0)) (h1 : ¬ a = 5) (h2 : ¬ a = 6) (h3 : ¬ a = 10) (h4 : ¬ a = 11) (h5 : ¬ a = 7) (h6 : ¬ a = 12) :
    Calls Tryd.prog 19 #[.agg #[.int .i64 a, .int .i64 b]] w fun e w' => e = .returned (.int .i64 (fixF a b)) ∧ Below w.heap.size w w' := by
  have HK := Lib.hid (fun W => known_any a W)
  have HF := Lib.hid (fun W => fixed_any a b W)
  have HB := Lib.hid (show Below w.heap.size w (w.alloc (.cells #[.int .i64 a, .int .i64 b] 23)) from (Below.refl _ _).alloc (Nat.le_refl _) _)
  obtain ⟨q, hq⟩ : ∃ q, q = decide (1 ≤ a ∧ a ≤ 22) := ⟨_, rfl⟩
  rw [← hq] at HK
  cases q with
  | true =>
    have hab : 1 ≤ a ∧ a ≤ 22 := of_decide_eq_true hq.symm
    have hb0 : ¬ b = 0 := fun e => hn ⟨hab, e⟩
    clear hq hn hab
    go_enter Tryd.func19, Tryd.ntmps19
    go_wp2_with fail
    refine (HK.out _).mono ?_
    rintro e w1 ⟨rfl, rfl⟩
    go_wp2_with fail
    refine (HF.out _).mono ?_
    rintro e w1 ⟨rfl, hb⟩
    have HB2 := Lib.hid (HB.out.trans (hb.mono HB.out.size))
    clear hb
    go_wp2_with fail
    go_ret
    exact ⟨rfl, HB2.out⟩
  | false =>
    clear hq hn
    go_enter Tryd.func19, Tryd.ntmps19
    go_wp2_with fail
    refine (HK.out _).mono ?_
    rintro e w1 ⟨rfl, rfl⟩
    go_wp2_with fail
    refine (HF.out _).mono ?_
    rintro e w1 ⟨rfl, hb⟩
    have HB2 := Lib.hid (HB.out.trans (hb.mono HB.out.size))
    clear hb
    go_wp2_with fail
    go_ret
    exact ⟨rfl, HB2.out⟩
theorem strength_any (a b : Int) (w : World) (ht : AlgAt w) :
    Calls Tryd.prog 19 #[.agg #[.int .i64 a, .int .i64 b]] w fun e w' => e = .returned (.int .i64 (strF a b)) ∧ Below w.heap.size w w' := by
  unfold strF
  by_cases c1 : a = 5 ∨ a = 6 ∨ a = 10 ∨ a = 11
  · rw [if_pos c1]
    exact strength_mod a b w c1
  rw [if_neg c1]
  by_cases c2 : a = 7 ∨ a = 12
  · rw [if_pos c2]
    by_cases c3 : b = 160 ∨ b = 224 ∨ b = 256 ∨ b = 384 ∨ b = 521
    · rw [if_pos c3]
      exact strength_ec a b w c2 c3
    · rw [if_neg c3]
      exact strength_ec0 a b w c2 (by omega) (by omega) (by omega) (by omega) (by omega)
  rw [if_neg c2]
  by_cases c3 : (1 ≤ a ∧ a ≤ 22) ∧ b = 0
  · rw [if_pos c3]
    obtain ⟨⟨g1, g2⟩, rfl⟩ := c3
    obtain ⟨k, rfl⟩ : ∃ k : Nat, a = (k : Int) := ⟨a.toNat, by omega⟩
    rw [Int.toNat_natCast]
    exact strength_tab k w (by omega) ht (by omega) (by omega) (by omega) (by omega) (by omega) (by omega)
  · rw [if_neg c3]
    exact strength_fix a b w c3 (by omega) (by omega) (by omega) (by omega) (by omega) (by omega)
theorem strength_below {a b : Int} {w W : World} (ht : AlgAt w) (hW : Below w.heap.size w W) : Calls Tryd.prog 19 #[.agg #[.int .i64 a, .int .i64 b]] W fun e w' => e = .returned (.int .i64 (strF a b)) ∧ Below W.heap.size W w' := strength_any a b W (ht.below hW)

set_option maxRecDepth 100000 in
theorem valid_any (a b : Int) (w : World) (ht : AlgAt w) :
    Calls Tryd.prog 17 #[.agg #[.int .i64 a, .int .i64 b]] w fun e w' => e = .returned (.bool (decide (0 < strF a b))) ∧ Below w.heap.size w w' := by
  have hb0 : Below w.heap.size w (w.alloc (.cells #[.int .i64 a, .int .i64 b] 23)) := (Below.refl _ _).alloc (Nat.le_refl _) _
  have HS := Lib.hid (strength_any a b _ (ht.below hb0))
  have HB0 := Lib.hid hb0
  generalize strF a b = z at *
  clear ht hb0
  go_enter Tryd.func17, Tryd.ntmps17
  go_wp2_with fail
  refine HS.out.mono ?_
  rintro e w1 ⟨rfl, hb⟩
  have HB := Lib.hid (HB0.out.trans (hb.mono HB0.out.size))
  clear hb
  go_wp2_with fail
  go_ret
  exact ⟨rfl, HB.out⟩

def nameF (a : Int) : ByteArray := if 1 ≤ a ∧ a ≤ 22 then (algRow a.toNat).1 else ⟨#[]⟩
set_option maxRecDepth 100000 in
theorem name_any (a : Int) (w : World) (ht : AlgAt w) :
    Calls Tryd.prog 13 #[.int .i64 a] w fun e w' => e = .returned (.string (nameF a)) ∧ w = w' := by
  have HK := Lib.hid (fun W => known_any a W)
  unfold nameF
  by_cases c : 1 ≤ a ∧ a ≤ 22
  · rw [if_pos c]
    rw [decide_eq_true c] at HK
    obtain ⟨k, rfl⟩ : ∃ k : Nat, a = (k : Int) := ⟨a.toNat, by omega⟩
    rw [Int.toNat_natCast]
    obtain ⟨hc, _, _⟩ := ht k (by omega)
    have hk23 : (k : Int) < 23 := by omega
    generalize (algRow k).1 = z at *
    clear ht c
    go_enter Tryd.func13, Tryd.ntmps13
    go_wp2_with fail
    refine (HK.out _).mono ?_
    rintro e w1 ⟨rfl, rfl⟩
    go_wp2_with fail
    go_ret
    exact ⟨rfl, rfl⟩
  · rw [if_neg c]
    rw [decide_eq_false c] at HK
    clear ht
    go_enter Tryd.func13, Tryd.ntmps13
    go_wp2_with fail
    refine (HK.out _).mono ?_
    rintro e w1 ⟨rfl, rfl⟩
    go_wp2_with fail
    go_ret
    exact ⟨rfl, rfl⟩
end Go.Proofs.YtiognfhjmcbbpaaDoor

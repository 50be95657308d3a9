import Derived.Test.YtiognfhjmcbbpaaDoorCE2
namespace Go.Proofs.YtiognfhjmcbbpaaDoor.Ev
open Go.RowKit
set_option linter.unusedSimpArgs false
set_option linter.unusedVariables false

/-! ## awake, and rows of the table of suites compared -/

theorem suRows_get (k : Nat) (h : k < 16) : (suRows 16)[k]? = some (rowCs (k + 1)) := by
  unfold suRows
  rw [List.getElem?_map, List.getElem?_range h]
  rfl
theorem suRows_len16 : (suRows 16).length = 16 := suRows_len 16
def FAwk : List C → Option C
  | [] => some (.v (.bool true))
  | _ => none
theorem spec_awake : SpecP Tryd.prog GC 8 FAwk := by
  intro args r hr
  unfold FAwk at hr
  split at hr
  · simp at hr
    subst hr
    refine ⟨enters_of Tryd.func8 rfl rfl, rfl, fun S0 T0 w vs hG hv => ?_⟩
    obtain rfl : vs = #[] := Array.eq_empty_of_size_eq_zero hv.1
    have hi : Inv w := hG.inv
    exact (awake_any w hi.env hi.mx hi.su).mono fun e w' ⟨h1, h2⟩ => ⟨_, h1, h2, rfl, rfl⟩
  · cases hr
def c12 (a : Int) (s : ByteArray) (x1 x2 x3 x4 x5 x6 x7 x8 x9 x10 : Int) : List Value := [.int .i64 a, .string s, .int .i64 x1, .int .i64 x2, .int .i64 x3, .int .i64 x4, .int .i64 x5, .int .i64 x6, .int .i64 x7, .int .i64 x8, .int .i64 x9, .int .i64 x10]
theorem k29 : tkinds Tryd.prog 9 29 = some [.i .i64, .s, .i .i64, .i .i64, .i .i64, .i .i64, .i .i64, .i .i64, .i .i64, .i .i64, .i .i64, .i .i64] := by kernel_rfl
theorem k29g : Tryd.prog.eqGuardType Tryd.prog.depth 29 = false := by kernel_rfl
theorem k29k : isAggK Tryd.prog 29 = true := by kernel_rfl
theorem eq29 (a : Int) (s : ByteArray) (x1 x2 x3 x4 x5 x6 x7 x8 x9 x10 : Int) : aggEq Tryd.prog .eql 29 [.int .i64 a, .string s, .int .i64 x1, .int .i64 x2, .int .i64 x3, .int .i64 x4, .int .i64 x5, .int .i64 x6, .int .i64 x7, .int .i64 x8, .int .i64 x9, .int .i64 x10] [.int .i64 a, .string s, .int .i64 x1, .int .i64 x2, .int .i64 x3, .int .i64 x4, .int .i64 x5, .int .i64 x6, .int .i64 x7, .int .i64 x8, .int .i64 x9, .int .i64 x10] = some (.v (.bool true)) := by
  simp [aggEq, k29, k29g, k29k, matchK, Kd.is, allEq, vEq]
theorem ne29 (a : Int) (s : ByteArray) (x1 x2 x3 x4 x5 x6 x7 x8 x9 x10 : Int) : aggEq Tryd.prog .neq 29 [.int .i64 a, .string s, .int .i64 x1, .int .i64 x2, .int .i64 x3, .int .i64 x4, .int .i64 x5, .int .i64 x6, .int .i64 x7, .int .i64 x8, .int .i64 x9, .int .i64 x10] [.int .i64 a, .string s, .int .i64 x1, .int .i64 x2, .int .i64 x3, .int .i64 x4, .int .i64 x5, .int .i64 x6, .int .i64 x7, .int .i64 x8, .int .i64 x9, .int .i64 x10] = some (.v (.bool false)) := by
  simp [aggEq, k29, k29g, k29k, matchK, Kd.is, allEq, vEq]
end Go.Proofs.YtiognfhjmcbbpaaDoor.Ev

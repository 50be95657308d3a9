import Derived.Test.YtiognfhjmcbbpaaDoorDi3
import Derived.Test.YtiognfhjmcbbpaaDoorCKnd
import Derived.Test.YtiognfhjmcbbpaaDoorCCod2
namespace Go.Proofs.YtiognfhjmcbbpaaDoor.Ev
open Go.RowKit
set_option linter.unusedSimpArgs false
set_option linter.unusedVariables false

/-! ## What was told as calls, told of readings -/

theorem rvs1 {M : Mem} {vs : Array Value} {x : Value} (h : Rvs M vs [.v x]) : vs = #[x] := by
  obtain ⟨h1, h2⟩ := h
  have h3 : vs.getD 0 undef = x := (h2 0 _ rfl).1
  apply Array.ext
  · exact h1
  · intro i hi1 hi2
    have : i = 0 := by simp at h1; omega
    subst this
    simpa [Array.getD, hi1] using h3
theorem rvsA2 {M : Mem} {vs : Array Value} {x y : Value} (h : Rvs M vs [.agg [.v x, .v y]]) : vs = #[.agg #[x, y]] := by
  obtain ⟨h1, h2⟩ := h
  obtain ⟨us, e, hz, hu⟩ := h2 0 _ rfl
  have a0 : us.getD 0 undef = x := (hu 0 _ rfl).1
  have a1 : us.getD 1 undef = y := (hu 1 _ rfl).1
  have hus : us = #[x, y] := by
    apply Array.ext
    · exact hz
    · intro i hi1 hi2
      have : i < 2 := by simp at hz; omega
      match i, this with
      | 0, _ => simpa [Array.getD, hi1] using a0
      | 1, _ => simpa [Array.getD, hi1] using a1
  subst hus
  apply Array.ext
  · exact h1
  · intro i hi1 hi2
    have : i = 0 := by simp at h1; omega
    subst this
    simpa [Array.getD, hi1] using e
/-- One step from a call's law to a reading's. -/
theorem at1 {f : FuncId} {fn : Func} {c : Code} (hf : Tryd.prog.funcs[f]? = some fn) (hb : fn.body = some c) (hn : (fn.name == "runtime.NumGoroutine") = false) {x y : Value} (hy : y.oneCell' = true)
    (h : ∀ w, Inv w → Calls Tryd.prog f #[x] w fun e w' => e = .returned y ∧ Below w.heap.size w w') :
    EntersAt Tryd.prog f ∧ (C.v y).clean = true ∧ ∀ (S0 T0 : Nat → Nat → Prop) (w : World) (vs : Array Value), GOK GC (Mem.entry S0 T0 w) → Rvs (Mem.entry S0 T0 w) vs [.v x] →
      Calls Tryd.prog f vs w fun e w' => ∃ v, e = .returned v ∧ Below w.heap.size w w' ∧ Rv ((Mem.entry S0 T0 w).later w') v (.v y) := by
  refine ⟨enters_of hf hb hn, rfl, fun S0 T0 w vs hG hv => ?_⟩
  rw [rvs1 hv]
  exact (h w hG.inv).mono fun e w' ⟨h1, h2⟩ => ⟨_, h1, h2, rfl, hy⟩
theorem at2 {f : FuncId} {fn : Func} {c : Code} (hf : Tryd.prog.funcs[f]? = some fn) (hb : fn.body = some c) (hn : (fn.name == "runtime.NumGoroutine") = false) {x x' y : Value} (hy : y.oneCell' = true)
    (h : ∀ w, Inv w → Calls Tryd.prog f #[.agg #[x, x']] w fun e w' => e = .returned y ∧ Below w.heap.size w w') :
    EntersAt Tryd.prog f ∧ (C.v y).clean = true ∧ ∀ (S0 T0 : Nat → Nat → Prop) (w : World) (vs : Array Value), GOK GC (Mem.entry S0 T0 w) → Rvs (Mem.entry S0 T0 w) vs [.agg [.v x, .v x']] →
      Calls Tryd.prog f vs w fun e w' => ∃ v, e = .returned v ∧ Below w.heap.size w w' ∧ Rv ((Mem.entry S0 T0 w).later w') v (.v y) := by
  refine ⟨enters_of hf hb hn, rfl, fun S0 T0 w vs hG hv => ?_⟩
  rw [rvsA2 hv]
  exact (h w hG.inv).mono fun e w' ⟨h1, h2⟩ => ⟨_, h1, h2, rfl, hy⟩
theorem same_below {w w' : World} (h : w = w') : Below w.heap.size w w' := h ▸ Below.refl _ _

def FName : List C → Option C
  | [.v (.int .i64 a)] => some (.v (.string (nameF a)))
  | _ => none
theorem spec_name : SpecP Tryd.prog GC 13 FName := by
  intro args r hr
  unfold FName at hr
  split at hr
  · simp at hr; subst hr
    exact at1 Tryd.func13 rfl rfl rfl fun w h => (name_any _ w h.env.alg).mono fun e w' ⟨h1, h2⟩ => ⟨h1, same_below h2⟩
  · cases hr
def FKind : List C → Option C
  | [.v (.int .i64 a)] => some (.v (.int .i64 (kindF a)))
  | _ => none
theorem spec_kind : SpecP Tryd.prog GC 15 FKind := by
  intro args r hr
  unfold FKind at hr
  split at hr
  · simp at hr; subst hr
    exact at1 Tryd.func15 rfl rfl rfl fun w h => (kind_any _ w h.env.alg).mono fun e w' ⟨h1, h2⟩ => ⟨h1, same_below h2⟩
  · cases hr
def FFind : List C → Option C
  | [.v (.string s)] => some (.v (.int .i64 (findFrom s 0 : Nat)))
  | _ => none
theorem spec_find : SpecP Tryd.prog GC 23 FFind := by
  intro args r hr
  unfold FFind at hr
  split at hr
  · simp at hr; subst hr
    exact at1 Tryd.func23 rfl rfl rfl fun w h => find_any _ w h.env.alg
  · cases hr
def FCode : List C → Option C
  | [.v (.string s)] => some (.v (.int .i64 (codeFrom s 0 : Nat)))
  | _ => none
theorem spec_code : SpecP Tryd.prog GC 25 FCode := by
  intro args r hr
  unfold FCode at hr
  split at hr
  · simp at hr; subst hr
    exact at1 Tryd.func25 rfl rfl rfl fun w h => code_any _ w h.su
  · cases hr
def FStr : List C → Option C
  | [.agg [.v (.int .i64 a), .v (.int .i64 b)]] => some (.v (.int .i64 (strF a b)))
  | _ => none
theorem spec_str : SpecP Tryd.prog GC 19 FStr := by
  intro args r hr
  unfold FStr at hr
  split at hr
  · simp at hr; subst hr
    exact at2 Tryd.func19 rfl rfl rfl fun w h => strength_any _ _ w h.env.alg
  · cases hr
def FValid : List C → Option C
  | [.agg [.v (.int .i64 a), .v (.int .i64 b)]] => some (.v (.bool (decide (0 < strF a b))))
  | _ => none
theorem spec_valid : SpecP Tryd.prog GC 17 FValid := by
  intro args r hr
  unfold FValid at hr
  split at hr
  · simp at hr; subst hr
    exact at2 Tryd.func17 rfl rfl rfl fun w h => valid_any _ _ w h.env.alg
  · cases hr
def FText : List C → Option C
  | [.agg [.v (.int .i64 a), .v (.int .i64 b)]] => if -9223372036854775808 ≤ b ∧ b ≤ 9223372036854775807 then some (.v (.string (textF a b))) else none
  | _ => none
theorem spec_text : SpecP Tryd.prog GC 21 FText := by
  intro args r hr
  unfold FText at hr
  split at hr
  · split at hr
    · rename_i hb
      simp at hr; subst hr
      exact at2 Tryd.func21 rfl rfl rfl fun w h => text_any _ _ w h.env hb
    · cases hr
  · cases hr
end Go.Proofs.YtiognfhjmcbbpaaDoor.Ev

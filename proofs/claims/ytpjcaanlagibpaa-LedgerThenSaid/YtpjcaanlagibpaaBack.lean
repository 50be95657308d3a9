import Derived.RangeFuncBox
import Derived.RangeFuncLeaves
import Derived.Shelf.Abstract
import Derived.WalkKit
import Derived.OwnWalkIn
import Derived.TacticsInMore
import Derived.LoopNIn
import Derived.LoopIn
import Derived.Test.YtpjcaanlagibpaaSame
namespace Go.Proofs.Ytpjcaanlagibpaa
open Go.RowKit Go.Shelf
set_option linter.unusedSimpArgs false
set_option linter.unusedVariables false

attribute [local go_sem] Oper.semAt_some

/-! ## slices.Backward at decisions, within a fence -/

/-- what has come when k rounds are over: the last k, the last one first -/
def come (ds : List Dec) (k : Nat) : List (Nat × Dec) := (List.range k).map fun j => (ds.length - 1 - j, (ds[ds.length - 1 - j]?).getD ⟨0, 0, 0, 0, 0⟩)
theorem come_succ (ds : List Dec) (k : Nat) : come ds (k + 1) = come ds k ++ [(ds.length - 1 - k, (ds[ds.length - 1 - k]?).getD ⟨0, 0, 0, 0, 0⟩)] := by simp [come, List.range_succ]
theorem come_length (ds : List Dec) (k : Nat) : (come ds k).length = k := by simp [come]

set_option maxRecDepth 100000 in
set_option maxHeartbeats 2000000 in
theorem back1_in (F : Fence) (n : Nat) (h72 : F.fn 72) (hro : F.round = none) (hn : 1 ≤ n) (l Bs n₀ b cap : Nat) (ds : List Dec) (hlen : ds.length ≤ 1000) (hb : b < n₀) (hBn : Bs < n₀) (J Jx : List (Nat × Dec) → World → Prop)
    (hY : ∀ pre x W, J pre W → pre.length < ds.length → YieldAt F (n - 1) Try.prog l #[.int .i64 (x.1 : Int), .agg #[.int .i64 x.2.day, .int .i64 x.2.known, .int .i64 x.2.kind, .int .i64 x.2.subject, .int .i64 x.2.value]] W fun e W' =>
      (e = .returned (.bool true) ∧ J (pre ++ [x]) W' ∧ Below n₀ W W') ∨ (e = .returned (.bool false) ∧ Jx (pre ++ [x]) W'))
    (W : World) (hBs : W.cell? ⟨Bs, 0, none⟩ = some (.slice (some ⟨b, 0, none⟩) ds.length cap)) (hc : DecsAt W b 0 ds) (h0 : J [] W) :
    CallsIn F n Try.prog 72 #[.func (.yield l) #[] #[], .pointer (some ⟨Bs, 0, none⟩)] W fun e W' => (∃ v, e = .returned v) ∧
      (J (come ds ds.length) W' ∨ (∃ k, k ≤ ds.length ∧ Jx (come ds k) W')) := by
  have hli : (ds.length : Int) ≤ 1000 := by omega
  refine callsIn_of_wp Try.func72 rfl h72 ?_ hro
  simp only [Try.ntmps72, List.size_toArray, List.length_cons, List.length_nil, Nat.reduceAdd, Nat.reduceSub, Array.replicate_succ, Array.replicate_zero, List.push_toArray, List.append_toArray, List.nil_append, List.cons_append]
  gi_wp2
  gi_loopw [3] (fun i wr => ∃ k : Nat, k ≤ ds.length ∧ i = .int .i64 ((ds.length : Int) - 1 - k) ∧ J (come ds k) wr ∧ Below n₀ W wr)
    (fun i _ => (intOf i + 1).toNat)
  case atStart => exact ⟨0, Nat.zero_le _, by simp, h0, Below.refl _ _⟩
  case round =>
    obtain ⟨k, hk, rfl, hJs, hnx⟩ := hrel
    have hBs2 := (hnx.cell (p := ⟨Bs, 0, none⟩) hBn).trans hBs
    by_cases hlt : k < ds.length
    · obtain ⟨p, hp⟩ : ∃ p : Nat, ds.length - 1 - k = p := ⟨_, rfl⟩
      have hpl : p < ds.length := by omega
      have hpi : (ds.length : Int) - 1 - (k : Int) = (p : Int) := by omega
      have hcs := come_succ ds k
      rw [hp, List.getElem?_eq_getElem hpl] at hcs
      simp only [Option.getD_some] at hcs
      obtain ⟨x0, x1, x2, x3, x4⟩ := (hc p hpl).of_cells (w' := wr) (fun o => hnx.cell (p := ⟨b, o, none⟩) hb)
      simp only [Nat.zero_add] at x0 x1 x2 x3 x4
      obtain ⟨fn, tmps, assign, body, hy, hR⟩ := hY _ (p, ds[p]) wr hJs (by rw [come_length]; exact hlt)
      dsimp only at hy
      have hli2 : (p : Int) < (ds.length : Int) := by omega
      have hpb : (p : Int) ≤ 1000 := by omega
      have HN := Lib.hid hnx
      rw [hpi]
      clear hnx hpi
      gi_wp2
      refine hR.mono ?_
      rintro e W3 (⟨rfl, hJ3, hk3⟩ | ⟨rfl, hJx3⟩)
      · gi_wp2
        go_roundw
        case rel => exact ⟨k + 1, by omega, congrArg (Value.int .i64) (by omega), by rw [hcs]; exact hJ3, HN.out.trans hk3⟩
        case measure => simp [intOf]
      · gi_wp2
        refine bodyPost_ret (results_none rfl _ _ _) rfl ?_
        exact ⟨⟨_, rfl⟩, .inr ⟨k + 1, by omega, by rw [hcs]; exact hJx3⟩⟩
    · have hkk : k = ds.length := by omega
      subst hkk
      have hneg : ¬ (0 : Int) ≤ (ds.length : Int) - 1 - (ds.length : Int) := by omega
      have hneg2 : (ds.length : Int) - 1 - (ds.length : Int) = -1 := by omega
      rw [hneg2]
      gi_wp2
      go_end0
      exact ⟨⟨_, rfl⟩, .inl hJs⟩
set_option maxRecDepth 100000 in
set_option maxHeartbeats 1000000 in
/-- the nil ledger: no round -/
theorem back1_nil_in (F : Fence) (n : Nat) (h72 : F.fn 72) (hro : F.round = none) (l Bs : Nat) (J : List (Nat × Dec) → World → Prop) (W : World) (a : Option Addr) (cap : Nat) (hBs : W.cell? ⟨Bs, 0, none⟩ = some (.slice a 0 cap)) (h0 : J [] W) :
    CallsIn F n Try.prog 72 #[.func (.yield l) #[] #[], .pointer (some ⟨Bs, 0, none⟩)] W fun e W' => (∃ v, e = .returned v) ∧ J [] W' := by
  refine callsIn_of_wp Try.func72 rfl h72 ?_ hro
  simp only [Try.ntmps72, List.size_toArray, List.length_cons, List.length_nil, Nat.reduceAdd, Nat.reduceSub, Array.replicate_succ, Array.replicate_zero, List.push_toArray, List.append_toArray, List.nil_append, List.cons_append]
  gi_wp2
  gi_loopw [3] (fun i wr => i = .int .i64 (-1) ∧ J [] wr) (fun _ _ => 0)
  case atStart => exact ⟨rfl, h0⟩
  case round =>
    obtain ⟨rfl, hJs⟩ := hrel
    gi_wp2
    go_end0
    exact ⟨⟨_, rfl⟩, hJs⟩

set_option maxHeartbeats 1000000 in
/-- slices.Backward(s): the slice is boxed; the function value captures the box -/
theorem back_in (F : Fence) (n : Nat) (h62 : F.fn 62) (hro : F.round = none) (a : Option Addr) (len cap : Nat) (w : World) :
    CallsIn F n Try.prog 62 #[.slice a len cap] w fun e w' => e = .returned (.func (.func 72) #[] #[.pointer (some ⟨w.heap.size, 0, none⟩)]) ∧ w' = w.alloc (.cells #[.slice a len cap] 23) := by
  refine callsIn_of_wp Try.func62 rfl h62 ?_ hro
  simp only [Try.ntmps62, List.size_toArray, List.length_cons, List.length_nil, Nat.reduceAdd, Nat.reduceSub, Array.replicate_succ, Array.replicate_zero, List.push_toArray, List.append_toArray, List.nil_append, List.cons_append]
  gi_wp2
  go_ret
  exact ⟨rfl, rfl⟩
end Go.Proofs.Ytpjcaanlagibpaa

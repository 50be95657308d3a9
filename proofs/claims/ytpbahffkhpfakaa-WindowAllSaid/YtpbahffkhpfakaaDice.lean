import Derived.Test.YtpbahffkhpfakaaProg
import Derived.WalkKit
import Derived.LoopTactic
import Derived.Outline
import Derived.WalkSpells
import Derived.WalkLawsBesides
import Derived.Lib.Hide
import Derived.BigQuiet
import Derived.Deep.QuietTactic
import Derived.StillTailTactics
import Derived.Below
import Derived.IntWalk
import Derived.Deep.RegionHeld3
import Derived.WalkSmall
namespace Go.Proofs.Ytpbahffkhpfakaa
open Go.RowKit
set_option linter.unusedSimpArgs false
set_option linter.unusedVariables false

/-! ## The dice of the statements: numbers from a list, whatever they are -/

theorem tmod_emod (n k : Int) : n.tmod k % k = n % k := by
  have h4 := Int.mul_tdiv_add_tmod n k
  have h5 : n = n.tmod k + k * n.tdiv k := by omega
  conv => rhs; rw [h5]
  rw [Int.add_mul_emod_self_left]

theorem tmod_range (n k : Int) (hk : 0 < k) : -k < n.tmod k ∧ n.tmod k < k := by
  have h2 := Int.tmod_lt_of_pos n hk
  have h3 := Int.tmod_lt_of_pos (-n) hk
  rw [Int.neg_tmod] at h3
  omega

theorem mod_any (n k : Int) (w : World) (hn : -9223372036854775808 ≤ n ∧ n ≤ 9223372036854775807) (hk : 0 < k) (hk2 : k < 1000000000) :
    Calls Try.prog 16 #[.int .i64 n, .int .i64 k] w fun e w' => e = .returned (.int .i64 (n % k)) ∧ w = w' := by
  have hr := tmod_range n k hk
  have he := Lib.hid (tmod_emod n k)
  have h1 : ¬ k < 1 := by omega
  have h2 : ¬ k = 0 := by omega
  obtain ⟨hr1, hr2⟩ := hr
  clear hn
  go_enter Try.func16, Try.ntmps16
  go_wp2
  go_ret
  exact ⟨congrArg (fun x => Ending.returned (.int .i64 x)) he.out, rfl⟩

theorem mod_any' (n k : Int) (w : World) (hn : -9223372036854775808 ≤ n ∧ n ≤ 9223372036854775807) (hk : 0 < k) (hk2 : k < 1000000000) :
    Calls Try.prog 16 #[.int .i64 n, .int .i64 k] w fun e w' => e = .returned (.int .i64 (n % k)) ∧ w' = w :=
  (mod_any n k w hn hk hk2).mono fun e w' ⟨h1, h2⟩ => ⟨h1, h2.symm⟩

theorem mod_zero (n k : Int) (w : World) (hk : k < 1) :
    Calls Try.prog 16 #[.int .i64 n, .int .i64 k] w fun e w' => e = .returned (.int .i64 0) ∧ w = w' := by
  go_enter Try.func16, Try.ntmps16
  go_wp2
  go_ret
  exact ⟨rfl, rfl⟩

/-- a list of numbers below block p -/
def RowAt (w : World) (p : Nat) (a : Option Addr) (len : Nat) : Prop :=
  len = 0 ∨ ∃ b off, a = some ⟨b, off, none⟩ ∧ b < p ∧ ∀ i, i < len → ∃ z : Int, (-9223372036854775808 ≤ z ∧ z ≤ 9223372036854775807) ∧ w.cell? ⟨b, off + i, none⟩ = some (.int .i64 z)

/-- dice lie in block p -/
def DiceAt (w : World) (p : Nat) : Prop :=
  p < w.heap.size ∧ ∃ (a : Option Addr) (len cap at' : Nat), w.cell? ⟨p, 0, none⟩ = some (.slice a len cap) ∧ w.cell? ⟨p, 1, none⟩ = some (.int .i64 at') ∧ w.frozen? ⟨p, 1, none⟩ = false ∧ at' ≤ len ∧ len ≤ 400 ∧ RowAt w p a len

/-- what giving out numbers leaves: only the block of the dice may have changed -/
structure Dk (p : Nat) (w0 w : World) : Prop where
  os : w.os = w0.os
  tape : w.tape = w0.tape
  output : w.output = w0.output
  size : w.heap.size = w0.heap.size
  block : ∀ k, k ≠ p → w.heap[k]? = w0.heap[k]?
  dice : DiceAt w p

theorem Dk.refl {p : Nat} {w : World} (h : DiceAt w p) : Dk p w w := ⟨rfl, rfl, rfl, rfl, fun _ _ => rfl, h⟩
theorem Dk.trans {p : Nat} {a b c : World} (h : Dk p a b) (k : Dk p b c) : Dk p a c :=
  ⟨k.os.trans h.os, k.tape.trans h.tape, k.output.trans h.output, k.size.trans h.size, fun i hi => (k.block i hi).trans (h.block i hi), k.dice⟩
theorem Dk.below {p : Nat} {a b : World} (h : Dk p a b) : Below p a b :=
  ⟨h.os, h.tape, h.output, by rw [h.size]; exact Nat.le_refl _, fun k hk => h.block k (by omega)⟩
theorem Dk.cell {p : Nat} {a b : World} (h : Dk p a b) {x : Addr} (hx : x.block ≠ p) : b.cell? x = a.cell? x := World.cell?_of_block (w := a) (h.block x.block hx)
theorem Dk.frozen {p : Nat} {a b : World} (h : Dk p a b) {x : Addr} (hx : x.block ≠ p) : b.frozen? x = a.frozen? x := World.frozen?_of_block (w := a) (h.block x.block hx)
theorem RowAt.below {w w' : World} {p : Nat} {a : Option Addr} {len : Nat} (h : RowAt w p a len) (hb : Below p w w') : RowAt w' p a len := by
  rcases h with h | ⟨b, off, rfl, hbp, hc⟩
  · exact .inl h
  · refine .inr ⟨b, off, rfl, hbp, fun i hi => ?_⟩
    obtain ⟨z, hz, hcell⟩ := hc i hi
    exact ⟨z, hz, by rw [hb.cell (p := ⟨b, off + i, none⟩) hbp]; exact hcell⟩
theorem DiceAt.below {w w' : World} {p : Nat} (h : DiceAt w p) (hb : Below (p + 1) w w') : DiceAt w' p := by
  obtain ⟨hp, a, len, cap, at', c0, c1, f1, h1, h2, hr⟩ := h
  exact ⟨Nat.lt_of_lt_of_le hp hb.size, a, len, cap, at', by rw [hb.cell (p := ⟨p, 0, none⟩) (by simp)]; exact c0, by rw [hb.cell (p := ⟨p, 1, none⟩) (by simp)]; exact c1,
    by rw [hb.frozen (p := ⟨p, 1, none⟩) (by simp)]; exact f1, h1, h2, hr.below (hb.mono (by omega))⟩

theorem DiceAt.drewN {w : World} {p : Nat} (h : DiceAt w p) (n : Nat) : DiceAt (w.drewN n) p := h.below ⟨rfl, rfl, rfl, Nat.le_refl _, fun _ _ => rfl⟩
theorem Dk.drewN {p : Nat} {a b : World} (h : Dk p a b) (n : Nat) : Dk p a (b.drewN n) := ⟨h.os, h.tape, h.output, h.size, h.block, h.dice.drewN n⟩

theorem light_any (a : Option Addr) (len cap : Nat) (w : World) (hl : (len : Int) ≤ 9223372036854775807) :
    Calls Try.prog 8 #[.slice a len cap] w fun e w' => e = .returned (.bool (decide (len ≤ 400))) ∧ w = w' := by
  go_enter Try.func8, Try.ntmps8
  go_wp2
  go_ret
  refine ⟨?_, rfl⟩
  have e : decide ((len : Int) ≤ 400) = decide (len ≤ 400) := by
    by_cases h : len ≤ 400
    · rw [decide_eq_true h, decide_eq_true (by omega)]
    · rw [decide_eq_false h, decide_eq_false (by omega)]
  exact congrArg (fun x => Ending.returned (.bool x)) e

theorem roll_any (a : Option Addr) (len cap : Nat) (w : World) (hl : len ≤ 400) (hr : RowAt w w.heap.size a len) :
    Calls Try.prog 10 #[.slice a len cap] w fun e w' => e = .returned (.pointer (some ⟨w.heap.size, 0, none⟩)) ∧ Below w.heap.size w w' ∧ w'.heap.size = w.heap.size + 1 ∧ DiceAt w' w.heap.size := by
  go_enter Try.func10, Try.ntmps10
  go_wp2
  go_ret
  have hb : Below w.heap.size w (w.alloc (.cells #[.slice a len cap, .int .i64 0] 61)) := (Below.refl _ _).alloc (Nat.le_refl _) _
  exact ⟨rfl, hb, by simp, by simp, a, len, cap, 0, World.cell?_alloc_at _ _ _ _ rfl, World.cell?_alloc_at _ _ _ _ rfl, by simp, by omega, hl, hr.below hb⟩

set_option maxRecDepth 100000 in
set_option maxHeartbeats 1000000 in
theorem next_any (p : Nat) (n : Int) (w : World) (h : DiceAt w p) (hn : 0 < n) (hn2 : n < 1000000000) :
    Calls Try.prog 12 #[.pointer (some ⟨p, 0, none⟩), .int .i64 n] w fun e w' => (∃ r : Nat, (r : Int) < n ∧ e = .returned (.int .i64 r)) ∧ Dk p w w' := by
  have hD := Lib.hid h
  obtain ⟨hp, a, len, cap, at', c0, c1, f1, h1, h2, hr⟩ := h
  by_cases hlt : at' < len
  · obtain ⟨b, off, rfl, hbp, hc⟩ := hr.resolve_left (by omega)
    obtain ⟨z, hz, hcell⟩ := hc at' hlt
    have hne : ¬ b = p := by omega
    have hzm := mod_any z n
    have hbh : b < w.heap.size := by omega
    have hg1 : ¬ ((len : Int) ≤ (at' : Int)) := by omega
    have hg2 : (at' : Int) < (len : Int) := by omega
    have ha9 : (at' : Int) ≤ 400 := by omega
    have hq : IntKind.i64.wrap ((at' : Int) + 1) = (at' : Int) + 1 := IntWalk.i64_in _ (by omega)
    have hq2 : IntKind.i64.wrap ((at' : Int) + 1 - 1) = (at' : Int) := by rw [show (at' : Int) + 1 - 1 = at' from by omega]; exact IntWalk.i64_in _ (by omega)
    have HQ2 := Lib.hid hq2
    have HR := Lib.hid hr
    have HC := Lib.hid hc
    clear hq2 hr hc
    go_enter Try.func12, Try.ntmps12
    go_wp2_with fail
    go_quiet (fail)
    clear hq
    go_wp2_with fail
    have e0 : ((w.drewN nq).setCell ⟨p, 1, none⟩ (.int .i64 ((at' : Int) + 1))).cell? ⟨p, 0, none⟩ = some (.slice (some ⟨b, off, none⟩) len cap) := by
      rw [World.cell?_setCell_other (h := by intro he; injection he with q1 q2 q3; omega)]; exact c0
    have e1 : ((w.drewN nq).setCell ⟨p, 1, none⟩ (.int .i64 ((at' : Int) + 1))).cell? ⟨p, 1, none⟩ = some (.int .i64 ((at' : Int) + 1)) := World.cell?_setCell_same (w.drewN nq) _ _ c1
    have e2 : ((w.drewN nq).setCell ⟨p, 1, none⟩ (.int .i64 ((at' : Int) + 1))).cell? ⟨b, off + at', none⟩ = some (.int .i64 z) := by
      rw [World.cell?_setCell_other (h := by intro he; injection he with q1 q2 q3; omega)]; exact hcell
    have hk : Dk p w ((w.drewN nq).setCell ⟨p, 1, none⟩ (.int .i64 ((at' : Int) + 1))) := by
      refine ⟨rfl, rfl, rfl, by simp, fun k hk => Below.heap_setCell _ _ _ _ (by simpa using hk), by simpa using hp, some ⟨b, off, none⟩, len, cap, at' + 1, e0, e1, by rw [World.frozen?_setCell]; exact f1, by omega, h2, .inr ⟨b, off, rfl, hbp, fun i hi => ?_⟩⟩
      obtain ⟨z', hz', hc'⟩ := HC.out i hi
      exact ⟨z', hz', by rw [World.cell?_setCell_other (h := by intro he; injection he with q1 q2 q3; omega)]; exact hc'⟩
    have HK := Lib.hid hk
    clear hk c0 c1 f1 hcell
    generalize (w.drewN nq).setCell ⟨p, 1, none⟩ (.int .i64 ((at' : Int) + 1)) = w2 at *
    have hq3 := HQ2.out
    go_quiet ((go_at_call 16; exact Calls.quiet_of_same (mod_any' z n _ hz hn hn2)))
    clear hq3
    go_wp2_with fail
    have hm0 : 0 ≤ z % n := Int.emod_nonneg _ (by omega)
    have hm1 : z % n < n := Int.emod_lt_of_pos _ hn
    go_ret
    refine ⟨⟨(z % n).toNat, by omega, ?_⟩, (HK.out).drewN _⟩
    have e : (((z % n).toNat : Nat) : Int) = z % n := by omega
    exact congrArg (fun x => Ending.returned (.int .i64 x)) e.symm
  · have hge : (len : Int) ≤ (at' : Int) := by omega
    have hge2 : ¬ ((at' : Int) < (len : Int)) := by omega
    clear hr
    go_enter Try.func12, Try.ntmps12
    go_wp2_with fail
    go_quiet (fail)
    go_wp2_with fail
    go_ret
    exact ⟨⟨0, by omega, rfl⟩, (Dk.refl hD.out).drewN _⟩
end Go.Proofs.Ytpbahffkhpfakaa

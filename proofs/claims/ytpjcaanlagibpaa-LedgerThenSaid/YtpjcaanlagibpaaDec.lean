import Derived.Test.YtpjcaanlagibpaaDice
import Derived.Test.YtpjcaanlagibpaaChk
namespace Go.Proofs.Ytpjcaanlagibpaa
open Go.RowKit
set_option linter.unusedSimpArgs false
set_option linter.unusedVariables false

/-- like Dk, but there may be new blocks -/
structure Dg (p : Nat) (w0 w : World) : Prop where
  os : w.os = w0.os
  tape : w.tape = w0.tape
  output : w.output = w0.output
  size : w0.heap.size ≤ w.heap.size
  block : ∀ k, k ≠ p → k < w0.heap.size → w.heap[k]? = w0.heap[k]?
  dice : DiceAt w p

theorem Dk.dg {p : Nat} {a b : World} (h : Dk p a b) : Dg p a b := ⟨h.os, h.tape, h.output, by rw [h.size]; exact Nat.le_refl _, fun k hk _ => h.block k hk, h.dice⟩
theorem Dg.refl {p : Nat} {w : World} (h : DiceAt w p) : Dg p w w := ⟨rfl, rfl, rfl, Nat.le_refl _, fun _ _ _ => rfl, h⟩
theorem Dg.trans {p : Nat} {a b c : World} (h : Dg p a b) (k : Dg p b c) : Dg p a c :=
  ⟨k.os.trans h.os, k.tape.trans h.tape, k.output.trans h.output, Nat.le_trans h.size k.size, fun i hi hs => (k.block i hi (Nat.lt_of_lt_of_le hs h.size)).trans (h.block i hi hs), k.dice⟩
theorem Dg.cell {p : Nat} {a b : World} (h : Dg p a b) {x : Addr} (hx : x.block ≠ p) (hs : x.block < a.heap.size) : b.cell? x = a.cell? x := World.cell?_of_block (w := a) (h.block x.block hx hs)
theorem Dg.frozen {p : Nat} {a b : World} (h : Dg p a b) {x : Addr} (hx : x.block ≠ p) (hs : x.block < a.heap.size) : b.frozen? x = a.frozen? x := World.frozen?_of_block (w := a) (h.block x.block hx hs)
theorem Dg.of_below {p : Nat} {a b : World} (h : Below a.heap.size a b) (hd : DiceAt a p) : Dg p a b :=
  ⟨h.os, h.tape, h.output, h.size, fun k _ hk => h.block k hk, hd.below (h.mono (by have := hd.1; omega))⟩
theorem Dg.below {p B : Nat} {a b : World} (h : Dg p a b) (hB : B ≤ p) (hs : B ≤ a.heap.size) : Below B a b :=
  ⟨h.os, h.tape, h.output, h.size, fun k hk => h.block k (by omega) (by omega)⟩

theorem Dg.setCell {p : Nat} {a b : World} (h : Dg p a b) {x : Addr} (hx : a.heap.size ≤ x.block) (hp : x.block ≠ p) (hpa : p < a.heap.size) (v : Value) : Dg p a (b.setCell x v) :=
  ⟨h.os, h.tape, h.output, by rw [World.size_setCell]; exact h.size, fun k hk hs => (Below.heap_setCell _ _ _ _ (by omega)).trans (h.block k hk hs), h.dice.below ((Below.refl _ _).setCell (by omega) _)⟩

/-- the cells of a struct of five fields that was stored -/
theorem five_cells (V : World) (B : Nat) (x0 x1 x2 x3 x4 : Value) (h : ∀ j, j < 5 → ∃ v, V.cell? ⟨B, j, none⟩ = some v) :
    let V' := ((((V.setCell ⟨B, 0, none⟩ x0).setCell ⟨B, 1, none⟩ x1).setCell ⟨B, 2, none⟩ x2).setCell ⟨B, 3, none⟩ x3).setCell ⟨B, 4, none⟩ x4
    V'.cell? ⟨B, 0, none⟩ = some x0 ∧ V'.cell? ⟨B, 1, none⟩ = some x1 ∧ V'.cell? ⟨B, 2, none⟩ = some x2 ∧ V'.cell? ⟨B, 3, none⟩ = some x3 ∧ V'.cell? ⟨B, 4, none⟩ = some x4 := by
  obtain ⟨v0, h0⟩ := h 0 (by omega)
  obtain ⟨v1, h1⟩ := h 1 (by omega)
  obtain ⟨v2, h2⟩ := h 2 (by omega)
  obtain ⟨v3, h3⟩ := h 3 (by omega)
  obtain ⟨v4, h4⟩ := h 4 (by omega)
  have o : ∀ (W : World) (i j : Nat) (x : Value), i ≠ j → (W.setCell ⟨B, i, none⟩ x).cell? ⟨B, j, none⟩ = W.cell? ⟨B, j, none⟩ := fun W i j x hij => by
    rw [World.cell?_setCell_other (h := by intro he; injection he with q1 q2 q3; exact hij q2)]
  refine ⟨?_, ?_, ?_, ?_, ?_⟩
  · rw [o _ _ _ _ (by omega), o _ _ _ _ (by omega), o _ _ _ _ (by omega), o _ _ _ _ (by omega)]; exact World.cell?_setCell_same _ _ _ h0
  · rw [o _ _ _ _ (by omega), o _ _ _ _ (by omega), o _ _ _ _ (by omega)]; exact World.cell?_setCell_same _ _ _ (by rw [o _ _ _ _ (by omega)]; exact h1)
  · rw [o _ _ _ _ (by omega), o _ _ _ _ (by omega)]; exact World.cell?_setCell_same _ _ _ (by rw [o _ _ _ _ (by omega), o _ _ _ _ (by omega)]; exact h2)
  · rw [o _ _ _ _ (by omega)]; exact World.cell?_setCell_same _ _ _ (by rw [o _ _ _ _ (by omega), o _ _ _ _ (by omega), o _ _ _ _ (by omega)]; exact h3)
  · exact World.cell?_setCell_same _ _ _ (by rw [o _ _ _ _ (by omega), o _ _ _ _ (by omega), o _ _ _ _ (by omega), o _ _ _ _ (by omega)]; exact h4)

/-- what a decision is that is made behind another one -/
def NextDec (a k : Nat) (e : Ending) : Prop :=
  ∃ a' k' c' s' v' : Nat, (a ≤ a' ∧ a' ≤ a + 2 ∧ k ≤ k' ∧ k' ≤ k + 1 ∧ 1 ≤ c' ∧ c' ≤ 5 ∧ s' ≤ 2 ∧ v' ≤ 1) ∧ e = .returned (Dec.val ⟨a', k', c', s', v'⟩)

def IsNat (n : Int) (e : Ending) : Prop := ∃ r : Nat, (r : Int) < n ∧ e = .returned (.int .i64 r)

theorem wrap_add (a r : Nat) (n : Int) (ha : a < 1000000) (hr : (r : Int) < n) (hn : n ≤ 1000) : IntKind.i64.wrap ((a : Int) + (r : Int)) = (a : Int) + (r : Int) := IntWalk.i64_in _ (by omega)
theorem wrap_one (r : Nat) (n : Int) (hr : (r : Int) < n) (hn : n ≤ 1000) : IntKind.i64.wrap (1 + (r : Int)) = 1 + (r : Int) := IntWalk.i64_in _ (by omega)

set_option maxRecDepth 100000 in
set_option maxHeartbeats 4000000 in
theorem decision_any (p a k c s v : Nat) (w : World) (h : DiceAt w p) (ha : a < 1000000) (hk : k < 1000000) :
    Calls Try.prog 17 #[.pointer (some ⟨p, 0, none⟩), Dec.val ⟨a, k, c, s, v⟩] w fun e w' => NextDec a k e ∧ Dg p w w' := by
  unfold Dec.val
  have hai : (a : Int) < 1000000 := by omega
  have hki : (k : Int) < 1000000 := by omega
  have hp := h.1
  go_enter Try.func17, Try.ntmps17
  go_wp2_with fail
  have h1 : Dg p w ((w.alloc (.cells #[.int .i64 a, .int .i64 k, .int .i64 c, .int .i64 s, .int .i64 v] 27)).alloc (.cells #[.int .i64 0, .int .i64 0, .int .i64 0, .int .i64 0, .int .i64 0] 27)) :=
    Dg.of_below (((Below.refl _ _).alloc (Nat.le_refl _) _).alloc (by simp) _) h
  have b0 : ((w.alloc (.cells #[.int .i64 a, .int .i64 k, .int .i64 c, .int .i64 s, .int .i64 v] 27)).alloc (.cells #[.int .i64 0, .int .i64 0, .int .i64 0, .int .i64 0, .int .i64 0] 27)).cell? ⟨w.heap.size, 0, none⟩ = some (.int .i64 a) := by
    rw [World.cell?_alloc_past _ _ _ (by simp)]; exact World.cell?_alloc_at _ _ _ _ rfl
  have b1 : ((w.alloc (.cells #[.int .i64 a, .int .i64 k, .int .i64 c, .int .i64 s, .int .i64 v] 27)).alloc (.cells #[.int .i64 0, .int .i64 0, .int .i64 0, .int .i64 0, .int .i64 0] 27)).cell? ⟨w.heap.size, 1, none⟩ = some (.int .i64 k) := by
    rw [World.cell?_alloc_past _ _ _ (by simp)]; exact World.cell?_alloc_at _ _ _ _ rfl
  have r5 : ∀ j, j < 5 → ((w.alloc (.cells #[.int .i64 a, .int .i64 k, .int .i64 c, .int .i64 s, .int .i64 v] 27)).alloc (.cells #[.int .i64 0, .int .i64 0, .int .i64 0, .int .i64 0, .int .i64 0] 27)).cell? ⟨w.heap.size + 1, j, none⟩ = some (.int .i64 0) := by
    intro j hj
    rw [World.cell?_alloc_at _ _ _ _ (by simp)]
    match j, hj with
    | 0, _ => rfl
    | 1, _ => rfl
    | 2, _ => rfl
    | 3, _ => rfl
    | 4, _ => rfl
  have f5 : ∀ j, ((w.alloc (.cells #[.int .i64 a, .int .i64 k, .int .i64 c, .int .i64 s, .int .i64 v] 27)).alloc (.cells #[.int .i64 0, .int .i64 0, .int .i64 0, .int .i64 0, .int .i64 0] 27)).frozen? ⟨w.heap.size + 1, j, none⟩ = false := by
    intro j; simp
  have H1 := Lib.hid h1
  have R5 := Lib.hid r5
  have F5 := Lib.hid f5
  clear h1 r5 f5
  generalize ((w.alloc (.cells #[.int .i64 a, .int .i64 k, .int .i64 c, .int .i64 s, .int .i64 v] 27)).alloc (.cells #[.int .i64 0, .int .i64 0, .int .i64 0, .int .i64 0, .int .i64 0] 27)) = W1 at *
  have hK := (Dk.refl H1.out.dice).drewN 1
  have hB1 : w.heap.size + 1 ≠ w.heap.size := by omega
  have hB2 : w.heap.size ≠ p := by omega
  have hB3 : w.heap.size + 1 ≠ p := by omega
  go_region_held3 (fun w' => w'.cell? ⟨w.heap.size, 0, none⟩ = some (.int .i64 a) ∧ w'.cell? ⟨w.heap.size, 1, none⟩ = some (.int .i64 k) ∧ Dg p w w')
    (first | (refine ⟨?_, ?_, ?_⟩; (rw [World.cell?_setCell_far _ _ _ _ hB1, World.cell?_setCell_far _ _ _ _ hB1, World.cell?_setCell_far _ _ _ _ hB1, World.cell?_setCell_far _ _ _ _ hB1, World.cell?_setCell_far _ _ _ _ hB1]; exact (hK.cell hB2).trans b0); (rw [World.cell?_setCell_far _ _ _ _ hB1, World.cell?_setCell_far _ _ _ _ hB1, World.cell?_setCell_far _ _ _ _ hB1, World.cell?_setCell_far _ _ _ _ hB1, World.cell?_setCell_far _ _ _ _ hB1]; exact (hK.cell hB2).trans b1); exact (((((H1.out.trans hK.dg).setCell (Nat.le_succ _) hB3 hp _).setCell (Nat.le_succ _) hB3 hp _).setCell (Nat.le_succ _) hB3 hp _).setCell (Nat.le_succ _) hB3 hp _).setCell (Nat.le_succ _) hB3 hp _) | exact ⟨(hK.cell hB2).trans b0, (hK.cell hB2).trans b1, H1.out.trans hK.dg⟩)
    (first | (go_at_call 37; refine (next_any p _ _ hK.dice (by decide) (by decide)).mono ?_; ((try clear r0 r1 r2 r3 r4 f0 f1 f2 f3 f4); rintro e w1 ⟨⟨r, hr, rfl⟩, hk1⟩; have hK := hK.trans hk1; have r0 := (hK.cell (x := ⟨w.heap.size + 1, 0, none⟩) hB3).trans (R5.out 0 (by decide)); have r1 := (hK.cell (x := ⟨w.heap.size + 1, 1, none⟩) hB3).trans (R5.out 1 (by decide)); have r2 := (hK.cell (x := ⟨w.heap.size + 1, 2, none⟩) hB3).trans (R5.out 2 (by decide)); have r3 := (hK.cell (x := ⟨w.heap.size + 1, 3, none⟩) hB3).trans (R5.out 3 (by decide)); have r4 := (hK.cell (x := ⟨w.heap.size + 1, 4, none⟩) hB3).trans (R5.out 4 (by decide)); have f0 := (hK.frozen (x := ⟨w.heap.size + 1, 0, none⟩) hB3).trans (F5.out 0); have f1 := (hK.frozen (x := ⟨w.heap.size + 1, 1, none⟩) hB3).trans (F5.out 1); have f2 := (hK.frozen (x := ⟨w.heap.size + 1, 2, none⟩) hB3).trans (F5.out 2); have f3 := (hK.frozen (x := ⟨w.heap.size + 1, 3, none⟩) hB3).trans (F5.out 3); have f4 := (hK.frozen (x := ⟨w.heap.size + 1, 4, none⟩) hB3).trans (F5.out 4))))
  rename_i v1 ra hra k1 K1 v2 rb hrb k2 K2 v3 rc hrc k3 K3 v4 rd hrd k4 K4
  obtain ⟨q0, q1, q2, q3, q4⟩ := five_cells w1 (w.heap.size + 1) (.int .i64 (IntKind.i64.wrap ((a : Int) + (ra : Int)))) (.int .i64 (IntKind.i64.wrap ((k : Int) + (rb : Int)))) (.int .i64 (IntKind.i64.wrap (1 + (rc : Int)))) (.int .i64 rd) (.int .i64 r) (fun j hj => ⟨_, (hK.cell (x := ⟨w.heap.size + 1, j, none⟩) hB3).trans (R5.out j hj)⟩)
  have hG : Dg p w (((((w1.setCell ⟨w.heap.size + 1, 0, none⟩ (.int .i64 (IntKind.i64.wrap ((a : Int) + (ra : Int))))).setCell ⟨w.heap.size + 1, 1, none⟩ (.int .i64 (IntKind.i64.wrap ((k : Int) + (rb : Int))))).setCell ⟨w.heap.size + 1, 2, none⟩ (.int .i64 (IntKind.i64.wrap (1 + (rc : Int))))).setCell ⟨w.heap.size + 1, 3, none⟩ (.int .i64 rd)).setCell ⟨w.heap.size + 1, 4, none⟩ (.int .i64 r)) :=
    (((((H1.out.trans hK.dg).setCell (Nat.le_succ _) hB3 hp _).setCell (Nat.le_succ _) hB3 hp _).setCell (Nat.le_succ _) hB3 hp _).setCell (Nat.le_succ _) hB3 hp _).setCell (Nat.le_succ _) hB3 hp _
  have wa := wrap_add a ra _ ha hra (by decide)
  have wk := wrap_add k rb _ hk hrb (by decide)
  have wc := wrap_one rc _ hrc (by decide)
  have hfin : NextDec a k (.returned (.agg #[.int .i64 (IntKind.i64.wrap ((a : Int) + (ra : Int))), .int .i64 (IntKind.i64.wrap ((k : Int) + (rb : Int))), .int .i64 (IntKind.i64.wrap (1 + (rc : Int))), .int .i64 rd, .int .i64 r])) := by
    refine ⟨a + ra, k + rb, 1 + rc, rd, r, by omega, ?_⟩
    rw [wa, wk, wc]
    rfl
  have HG := Lib.hid hG
  have HF := Lib.hid hfin
  clear wa wk wc hG hfin r0 r1 r2 r3 r4 f0 f1 f2 f3 f4 b0 b1 hK v1 v2 v3 v4 k1 k2 k3 k4 hk1
  generalize ((((w1.setCell ⟨w.heap.size + 1, 0, none⟩ (.int .i64 (IntKind.i64.wrap ((a : Int) + (ra : Int))))).setCell ⟨w.heap.size + 1, 1, none⟩ (.int .i64 (IntKind.i64.wrap ((k : Int) + (rb : Int))))).setCell ⟨w.heap.size + 1, 2, none⟩ (.int .i64 (IntKind.i64.wrap (1 + (rc : Int))))).setCell ⟨w.heap.size + 1, 3, none⟩ (.int .i64 rd)).setCell ⟨w.heap.size + 1, 4, none⟩ (.int .i64 r) = w5 at *
  go_wp2
  exact bodyPost_ret (v := .agg #[.int .i64 (IntKind.i64.wrap ((a : Int) + (ra : Int))), .int .i64 (IntKind.i64.wrap ((k : Int) + (rb : Int))), .int .i64 (IntKind.i64.wrap (1 + (rc : Int))), .int .i64 rd, .int .i64 r]) (by simp [results, Try.results17, go_sem, q0, q1, q2, q3, q4]) rfl ⟨HF.out, HG.out⟩
end Go.Proofs.Ytpjcaanlagibpaa

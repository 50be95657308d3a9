import Derived.Test.YtpbahffkhpfakaaWOf
import Derived.Test.YtpbahffkhpfakaaInv
namespace Go.Proofs.Ytpbahffkhpfakaa
open Go.RowKit
set_option linter.unusedSimpArgs false
set_option linter.unusedVariables false

/-! ## What drawing leaves: the dice's block may have changed, and there are new blocks -/

structure Dg (p : Nat) (w0 w : World) : Prop where
  os : w.os = w0.os
  tape : w.tape = w0.tape
  output : w.output = w0.output
  size : w0.heap.size ≤ w.heap.size
  block : ∀ k, k ≠ p → k < w0.heap.size → w.heap[k]? = w0.heap[k]?
  dice : DiceAt w p
theorem Dk.dg {p : Nat} {a b : World} (h : Dk p a b) : Dg p a b := ⟨h.os, h.tape, h.output, by rw [h.size]; exact Nat.le_refl _, fun k hk _ => h.block k hk, h.dice⟩
theorem Dg.refl {p : Nat} {w : World} (h : DiceAt w p) : Dg p w w := ⟨rfl, rfl, rfl, Nat.le_refl _, fun _ _ _ => rfl, h⟩
theorem Dg.trans {p : Nat} {a b c : World} (h : Dg p a b) (k : Dg p b c) : Dg p a c :=
  ⟨k.os.trans h.os, k.tape.trans h.tape, k.output.trans h.output, Nat.le_trans h.size k.size, fun i hi hs => (k.block i hi (Nat.lt_of_lt_of_le hs h.size)).trans (h.block i hi hs), k.dice⟩
theorem Dg.cell {p : Nat} {a b : World} (h : Dg p a b) {x : Addr} (hx : x.block ≠ p) (hs : x.block < a.heap.size) : b.cell? x = a.cell? x := World.cell?_of_block (w := a) (h.block x.block hx hs)
theorem Dg.of_below {p : Nat} {a b : World} (h : Below a.heap.size a b) (hd : DiceAt a p) : Dg p a b :=
  ⟨h.os, h.tape, h.output, h.size, fun k _ hk => h.block k hk, hd.below (h.mono (by have := hd.1; omega))⟩
theorem Dg.drew {p : Nat} {a b : World} (h : Dg p a b) : Dg p a b.drew := ⟨h.os, h.tape, h.output, h.size, h.block, h.dice.drewN 1⟩
theorem Dg.alloc {p : Nat} {a b : World} (h : Dg p a b) (o : Obj) : Dg p a (b.alloc o) := h.trans (Dg.of_below (Below.alloc1 b o) h.dice)
theorem Dg.grown {p : Nat} {w w' : World} (h : DiceAt w p) (hg : w.grownBy w' none) : Dg p w w' := by
  have hb : Below w.heap.size w w' := ⟨hg.os, hg.tape, hg.output, hg.size, fun k hk => hg.block k hk (by simp)⟩
  exact Dg.of_below hb h
/-- what an own row leaves alone -/
theorem own_dg {p : Nat} {w w' : World} {s : Nat} {e : TypeId} {sz : Nat} {v : Value} {n : Nat} {xs : List Value} (hps : p < s) (h : w.ownsRow s e sz v n xs) (hd : Dg p w w') : w'.ownsRow s e sz v n xs := by
  obtain ⟨h1, h2⟩ := h
  refine ⟨h1, ?_⟩
  rcases h2 with h2 | ⟨g, cap, cur, e1, hb, hg, h3⟩
  · exact .inl h2
  · have hlt : g < w.heap.size := (Array.getElem?_eq_some_iff.1 hg).1
    exact .inr ⟨g, cap, cur, e1, hb, by rw [hd.block g (by omega) hlt]; exact hg, h3⟩
theorem heap_cell {w : World} {B : Nat} {cur : Array Value} {T : TypeId} {fz : Nat × Nat} (h : w.heap[B]? = some (.cells cur T fz)) (o : Nat) : w.cell? ⟨B, o, none⟩ = cur[o]? := by
  simp [World.cell?, h]
theorem heap_free {w : World} {B : Nat} {cur : Array Value} {T : TypeId} (h : w.heap[B]? = some (.cells cur T (0, 0))) (o : Nat) : w.frozen? ⟨B, o, none⟩ = false := by
  simp [World.frozen?, h]
theorem heap_new (w : World) (o : Obj) : (w.alloc o).heap[w.heap.size]? = some o := (MapKept.heap_alloc w o).1
theorem heap_set {w : World} {B : Nat} {cur : Array Value} {T : TypeId} {fz : Nat × Nat} (h : w.heap[B]? = some (.cells cur T fz)) (o : Nat) (v : Value) : (w.setCell ⟨B, o, none⟩ v).heap[B]? = some (.cells (cur.setIfInBounds o v) T fz) := by
  simp [World.setCell, Array.getElem?_modify, h]
theorem own_type {w : World} {s : Nat} {e : TypeId} {sz : Nat} {v : Value} {n : Nat} {xs : List Value} (h : w.ownsRow s e sz v n xs) {k : Nat} (hk : v.ownBlock = some k) : ∃ cur, w.heap[k]? = some (.cells cur e (0, 0)) := by
  rcases h.2 with ⟨h2, _⟩ | ⟨g, cap, cur, e1, hb, hg, h3⟩
  · rw [h2] at hk; cases hk
  · rw [e1] at hk
    have : g = k := by simpa [Value.ownBlock] using hk
    subst this
    exact ⟨cur, hg⟩
theorem own_ne {w : World} {s : Nat} {e T : TypeId} {sz : Nat} {v : Value} {n : Nat} {xs : List Value} (h : w.ownsRow s e sz v n xs) {k : Nat} {cur : Array Value} {fz : Nat × Nat} (hk : w.heap[k]? = some (.cells cur T fz)) (hne : e ≠ T) : v.ownBlock ≠ some k := fun e2 => by
  obtain ⟨cur2, h2⟩ := own_type h e2
  rw [hk] at h2
  simp only [Option.some.injEq, Obj.cells.injEq] at h2
  exact hne h2.2.1.symm
end Go.Proofs.Ytpbahffkhpfakaa

import Derived.Test.YtpbahffkhpfakaaWOfZ
import Derived.Test.YtpbahffkhpfakaaInv
namespace Go.Proofs.Ytpbahffkhpfakaa
open Go.RowKit
set_option linter.unusedSimpArgs false
set_option linter.unusedVariables false

/-! ## What drawing leaves: the dice's block may have changed, and there are new blocks -/

structure Dg (p : Nat) (w0 w : World) : Prop where
  os : w.os = w0.os
  tape : w.tape = w0.tape
  output : w.output = w0.output
  size : w0.heap.size ≤ w.heap.size
  block : ∀ k, k ≠ p → k < w0.heap.size → w.heap[k]? = w0.heap[k]?
  dice : DiceAt w p
theorem Dk.dg {p : Nat} {a b : World} (h : Dk p a b) : Dg p a b := ⟨h.os, h.tape, h.output, by rw [h.size]; exact Nat.le_refl _, fun k hk _ => h.block k hk, h.dice⟩
theorem Dg.refl {p : Nat} {w : World} (h : DiceAt w p) : Dg p w w := ⟨rfl, rfl, rfl, Nat.le_refl _, fun _ _ _ => rfl, h⟩
theorem Dg.trans {p : Nat} {a b c : World} (h : Dg p a b) (k : Dg p b c) : Dg p a c :=
  ⟨k.os.trans h.os, k.tape.trans h.tape, k.output.trans h.output, Nat.le_trans h.size k.size, fun i hi hs => (k.block i hi (Nat.lt_of_lt_of_le hs h.size)).trans (h.block i hi hs), k.dice⟩
theorem Dg.cell {p : Nat} {a b : World} (h : Dg p a b) {x : Addr} (hx : x.block ≠ p) (hs : x.block < a.heap.size) : b.cell? x = a.cell? x := World.cell?_of_block (w := a) (h.block x.block hx hs)
theorem Dg.of_below {p : Nat} {a b : World} (h : Below a.heap.size a b) (hd : DiceAt a p) : Dg p a b :=
  ⟨h.os, h.tape, h.output, h.size, fun k _ hk => h.block k hk, hd.below (h.mono (by have := hd.1; omega))⟩
theorem Dg.drew {p : Nat} {a b : World} (h : Dg p a b) : Dg p a b.drew := ⟨h.os, h.tape, h.output, h.size, h.block, h.dice.drewN 1⟩
theorem Dg.alloc {p : Nat} {a b : World} (h : Dg p a b) (o : Obj) : Dg p a (b.alloc o) := h.trans (Dg.of_below (Below.alloc1 b o) h.dice)
theorem Dg.grown {p : Nat} {w w' : World} (h : DiceAt w p) (hg : w.grownBy w' none) : Dg p w w' := by
  have hb : Below w.heap.size w w' := ⟨hg.os, hg.tape, hg.output, hg.size, fun k hk => hg.block k hk (by simp)⟩
  exact Dg.of_below hb h
/-- what an own row leaves alone -/
theorem own_dg {p : Nat} {w w' : World} {s : Nat} {e : TypeId} {sz : Nat} {v : Value} {n : Nat} {xs : List Value} (hps : p < s) (h : w.ownsRow s e sz v n xs) (hd : Dg p w w') : w'.ownsRow s e sz v n xs := by
  obtain ⟨h1, h2⟩ := h
  refine ⟨h1, ?_⟩
  rcases h2 with h2 | ⟨g, cap, cur, e1, hb, hg, h3⟩
  · exact .inl h2
  · have hlt : g < w.heap.size := (Array.getElem?_eq_some_iff.1 hg).1
    exact .inr ⟨g, cap, cur, e1, hb, by rw [hd.block g (by omega) hlt]; exact hg, h3⟩
theorem heap_cell {w : World} {B : Nat} {cur : Array Value} {T : TypeId} {fz : Nat × Nat} (h : w.heap[B]? = some (.cells cur T fz)) (o : Nat) : w.cell? ⟨B, o, none⟩ = cur[o]? := by
  simp [World.cell?, h]
theorem heap_free {w : World} {B : Nat} {cur : Array Value} {T : TypeId} (h : w.heap[B]? = some (.cells cur T (0, 0))) (o : Nat) : w.frozen? ⟨B, o, none⟩ = false := by
  simp [World.frozen?, h]
theorem heap_new (w : World) (o : Obj) : (w.alloc o).heap[w.heap.size]? = some o := (MapKept.heap_alloc w o).1
theorem heap_set {w : World} {B : Nat} {cur : Array Value} {T : TypeId} {fz : Nat × Nat} (h : w.heap[B]? = some (.cells cur T fz)) (o : Nat) (v : Value) : (w.setCell ⟨B, o, none⟩ v).heap[B]? = some (.cells (cur.setIfInBounds o v) T fz) := by
  simp [World.setCell, Array.getElem?_modify, h]
theorem own_type {w : World} {s : Nat} {e : TypeId} {sz : Nat} {v : Value} {n : Nat} {xs : List Value} (h : w.ownsRow s e sz v n xs) {k : Nat} (hk : v.ownBlock = some k) : ∃ cur, w.heap[k]? = some (.cells cur e (0, 0)) := by
  rcases h.2 with ⟨h2, _⟩ | ⟨g, cap, cur, e1, hb, hg, h3⟩
  · rw [h2] at hk; cases hk
  · rw [e1] at hk
    have : g = k := by simpa [Value.ownBlock] using hk
    subst this
    exact ⟨cur, hg⟩
theorem own_ne {w : World} {s : Nat} {e T : TypeId} {sz : Nat} {v : Value} {n : Nat} {xs : List Value} (h : w.ownsRow s e sz v n xs) {k : Nat} {cur : Array Value} {fz : Nat × Nat} (hk : w.heap[k]? = some (.cells cur T fz)) (hne : e ≠ T) : v.ownBlock ≠ some k := fun e2 => by
  obtain ⟨cur2, h2⟩ := own_type h e2
  rw [hk] at h2
  simp only [Option.some.injEq, Obj.cells.injEq] at h2
  exact hne h2.2.1.symm
end Go.Proofs.Ytpbahffkhpfakaa

namespace Go.Proofs.Ytpbahffkhpfakaa
open Go.RowKit
set_option linter.unusedSimpArgs false
set_option linter.unusedVariables false

/-! ## One window more: what its region keeps -/

def OwnWins (w : World) (s : Nat) (v : Value) (ws : List Win) : Prop := w.ownsRow s 58 3 v ws.length (ws.flatMap Win.cells)
def zeroCal : Obj := .cells #[.slice none 0 0, .slice none 0 0, .slice none 0 0] 25 (0, 0)

structure E11 (p s : Nat) (w w' : World) : Prop where
  os : w'.os = w.os
  tape : w'.tape = w.tape
  output : w'.output = w.output
  size : w.heap.size ≤ w'.heap.size
  base : ∀ k, k < s → k ≠ p → w'.heap[k]? = w.heap[k]?
  ints : ∀ k cur, s ≤ k → w.heap[k]? = some (.cells cur 3 (0, 0)) → w'.heap[k]? = w.heap[k]?
  rows : ∀ k cur, s ≤ k → w.heap[k]? = some (.cells cur 22 (0, 0)) → w'.heap[k]? = w.heap[k]?
  dice : DiceAt w' p
theorem E11.trans {p s : Nat} {a b c : World} (h : E11 p s a b) (k : E11 p s b c) : E11 p s a c :=
  ⟨k.os.trans h.os, k.tape.trans h.tape, k.output.trans h.output, Nat.le_trans h.size k.size, fun i h1 h2 => (k.base i h1 h2).trans (h.base i h1 h2),
    fun i cur h1 h2 => (k.ints i cur h1 ((h.ints i cur h1 h2).trans h2)).trans (h.ints i cur h1 h2), fun i cur h1 h2 => (k.rows i cur h1 ((h.rows i cur h1 h2).trans h2)).trans (h.rows i cur h1 h2), k.dice⟩
theorem E11.refl {p s : Nat} {w : World} (h : DiceAt w p) : E11 p s w w := ⟨rfl, rfl, rfl, Nat.le_refl _, fun _ _ _ => rfl, fun _ _ _ _ => rfl, fun _ _ _ _ => rfl, h⟩
theorem Dg.e11 {p s : Nat} {a b : World} (h : Dg p a b) (hps : p < s) (hs : s ≤ a.heap.size) : E11 p s a b :=
  ⟨h.os, h.tape, h.output, h.size, fun k h1 h2 => h.block k h2 (by omega), fun k cur h1 h2 => h.block k (by omega) (Array.getElem?_eq_some_iff.1 h2).1, fun k cur h1 h2 => h.block k (by omega) (Array.getElem?_eq_some_iff.1 h2).1, h.dice⟩
theorem own_e11 {p s : Nat} {w w' : World} {v : Value} {l : List Int} (h : OwnInts w s v l) (he : E11 p s w w') : OwnInts w' s v l := by
  obtain ⟨h1, h2⟩ := h
  refine ⟨h1, ?_⟩
  rcases h2 with h2 | ⟨g, cap, cur, e1, hb, hg, h3⟩
  · exact .inl h2
  · exact .inr ⟨g, cap, cur, e1, hb, (he.ints g cur hb hg).trans hg, h3⟩

def FourB (l : List Int) : Prop := l = [0, 1] ∨ l = [0] ∨ l = [1] ∨ l = []
def TeamOk (w : World) (s : Nat) (u : Value) : Prop := ∃ l, FourB l ∧ OwnInts w s u l
theorem TeamOk.keep {p s : Nat} {w w' : World} {u : Value} (h : TeamOk w s u) (he : E11 p s w w') : TeamOk w' s u := by
  obtain ⟨l, h1, h2⟩ := h
  exact ⟨l, h1, own_e11 h2 he⟩
theorem TeamOk.form {s : Nat} {w : World} {u : Value} (h : TeamOk w s u) : ∃ a n m, u = .slice a n m := by
  obtain ⟨l, _, h2⟩ := h
  obtain ⟨a, m, e⟩ := OwnInts.form h2
  exact ⟨a, _, m, e⟩

def F11 (p s B fm t2 : Nat) (wv : Value) (d : Nat) (v : Value) (w : World) : Prop :=
  (d = 45 → v = .pointer (some ⟨B, 0, none⟩)) ∧ (d = 46 → v = wv) ∧ (d = 47 → v = .int .i64 fm) ∧ (d = 48 → v = .int .i64 t2) ∧ (d = 49 → v = .agg #[.int .i64 fm, .int .i64 t2]) ∧
  (d = 50 → OwnInts w s v [0, 1]) ∧ (d = 51 → OwnInts w s v [0, 1]) ∧ (d = 52 → OwnInts w s v [0]) ∧ (d = 53 → OwnInts w s v [1]) ∧
  (d = 54 → ∃ (b : Nat) (cur : Array Value), v = .slice (some ⟨b, 0, none⟩) 5 5 ∧ s ≤ b ∧ w.heap[b]? = some (.cells cur 22 (0, 0)) ∧ cur.size = 5 ∧ ∀ (i : Nat) (u : Value), cur[i]? = some u → TeamOk w s u) ∧
  (d = 55 → v = .pointer (some ⟨p, 0, none⟩)) ∧ (d = 56 → ∃ r : Nat, r < 5 ∧ v = .int .i64 r) ∧
  (d = 57 → ∃ (b : Nat) (cur : Array Value) (i : Nat) (u : Value), v = .pointer (some ⟨b, i, none⟩) ∧ s ≤ b ∧ w.heap[b]? = some (.cells cur 22 (0, 0)) ∧ cur[i]? = some u ∧ TeamOk w s u) ∧
  (d = 58 → TeamOk w s v) ∧ (d = 59 → ∃ u, v = .agg #[.int .i64 fm, .int .i64 t2, u] ∧ TeamOk w s u) ∧ (d = 62 → v = .pointer (some ⟨B, 0, none⟩))
theorem F11.keep {p s B fm t2 : Nat} {wv : Value} {d : Nat} {v : Value} {w w' : World} (h : F11 p s B fm t2 wv d v w) (he : E11 p s w w') : F11 p s B fm t2 wv d v w' := by
  obtain ⟨h1, h2, h3, h4, h5, h6, h7, h8, h9, h10, h11, h12, h13, h14, h15, h16⟩ := h
  refine ⟨h1, h2, h3, h4, h5, fun e => own_e11 (h6 e) he, fun e => own_e11 (h7 e) he, fun e => own_e11 (h8 e) he, fun e => own_e11 (h9 e) he, fun e => ?_, h11, h12, fun e => ?_, fun e => (h14 e).keep he, fun e => ?_, h16⟩
  · obtain ⟨b, cur, a1, a2, a3, a4, a5⟩ := h10 e
    exact ⟨b, cur, a1, a2, (he.rows b cur a2 a3).trans a3, a4, fun i u hu => (a5 i u hu).keep he⟩
  · obtain ⟨b, cur, i, u, a1, a2, a3, a4, a5⟩ := h13 e
    exact ⟨b, cur, i, u, a1, a2, (he.rows b cur a2 a3).trans a3, a4, a5.keep he⟩
  · obtain ⟨u, a1, a2⟩ := h15 e
    exact ⟨u, a1, a2.keep he⟩
section
variable {p s B fm t2 : Nat} {wv v : Value} {w : World}
theorem F11.at60 : F11 p s B fm t2 wv 60 v w := ⟨fun e => absurd e (by decide), fun e => absurd e (by decide), fun e => absurd e (by decide), fun e => absurd e (by decide), fun e => absurd e (by decide), fun e => absurd e (by decide), fun e => absurd e (by decide), fun e => absurd e (by decide), fun e => absurd e (by decide), fun e => absurd e (by decide), fun e => absurd e (by decide), fun e => absurd e (by decide), fun e => absurd e (by decide), fun e => absurd e (by decide), fun e => absurd e (by decide), fun e => absurd e (by decide)⟩
theorem F11.at61 : F11 p s B fm t2 wv 61 v w := ⟨fun e => absurd e (by decide), fun e => absurd e (by decide), fun e => absurd e (by decide), fun e => absurd e (by decide), fun e => absurd e (by decide), fun e => absurd e (by decide), fun e => absurd e (by decide), fun e => absurd e (by decide), fun e => absurd e (by decide), fun e => absurd e (by decide), fun e => absurd e (by decide), fun e => absurd e (by decide), fun e => absurd e (by decide), fun e => absurd e (by decide), fun e => absurd e (by decide), fun e => absurd e (by decide)⟩
theorem F11.at45  : F11 p s B fm t2 wv 45 (.pointer (some ⟨B, 0, none⟩)) w := ⟨fun _ => rfl, fun e => absurd e (by decide), fun e => absurd e (by decide), fun e => absurd e (by decide), fun e => absurd e (by decide), fun e => absurd e (by decide), fun e => absurd e (by decide), fun e => absurd e (by decide), fun e => absurd e (by decide), fun e => absurd e (by decide), fun e => absurd e (by decide), fun e => absurd e (by decide), fun e => absurd e (by decide), fun e => absurd e (by decide), fun e => absurd e (by decide), fun e => absurd e (by decide)⟩
theorem F11.at46  : F11 p s B fm t2 wv 46 wv w := ⟨fun e => absurd e (by decide), fun _ => rfl, fun e => absurd e (by decide), fun e => absurd e (by decide), fun e => absurd e (by decide), fun e => absurd e (by decide), fun e => absurd e (by decide), fun e => absurd e (by decide), fun e => absurd e (by decide), fun e => absurd e (by decide), fun e => absurd e (by decide), fun e => absurd e (by decide), fun e => absurd e (by decide), fun e => absurd e (by decide), fun e => absurd e (by decide), fun e => absurd e (by decide)⟩
theorem F11.at47  : F11 p s B fm t2 wv 47 (.int .i64 fm) w := ⟨fun e => absurd e (by decide), fun e => absurd e (by decide), fun _ => rfl, fun e => absurd e (by decide), fun e => absurd e (by decide), fun e => absurd e (by decide), fun e => absurd e (by decide), fun e => absurd e (by decide), fun e => absurd e (by decide), fun e => absurd e (by decide), fun e => absurd e (by decide), fun e => absurd e (by decide), fun e => absurd e (by decide), fun e => absurd e (by decide), fun e => absurd e (by decide), fun e => absurd e (by decide)⟩
theorem F11.at48  : F11 p s B fm t2 wv 48 (.int .i64 t2) w := ⟨fun e => absurd e (by decide), fun e => absurd e (by decide), fun e => absurd e (by decide), fun _ => rfl, fun e => absurd e (by decide), fun e => absurd e (by decide), fun e => absurd e (by decide), fun e => absurd e (by decide), fun e => absurd e (by decide), fun e => absurd e (by decide), fun e => absurd e (by decide), fun e => absurd e (by decide), fun e => absurd e (by decide), fun e => absurd e (by decide), fun e => absurd e (by decide), fun e => absurd e (by decide)⟩
theorem F11.at49  : F11 p s B fm t2 wv 49 (.agg #[.int .i64 fm, .int .i64 t2]) w := ⟨fun e => absurd e (by decide), fun e => absurd e (by decide), fun e => absurd e (by decide), fun e => absurd e (by decide), fun _ => rfl, fun e => absurd e (by decide), fun e => absurd e (by decide), fun e => absurd e (by decide), fun e => absurd e (by decide), fun e => absurd e (by decide), fun e => absurd e (by decide), fun e => absurd e (by decide), fun e => absurd e (by decide), fun e => absurd e (by decide), fun e => absurd e (by decide), fun e => absurd e (by decide)⟩
theorem F11.at50 (h : OwnInts w s v [0, 1]) : F11 p s B fm t2 wv 50 v w := ⟨fun e => absurd e (by decide), fun e => absurd e (by decide), fun e => absurd e (by decide), fun e => absurd e (by decide), fun e => absurd e (by decide), fun _ => h, fun e => absurd e (by decide), fun e => absurd e (by decide), fun e => absurd e (by decide), fun e => absurd e (by decide), fun e => absurd e (by decide), fun e => absurd e (by decide), fun e => absurd e (by decide), fun e => absurd e (by decide), fun e => absurd e (by decide), fun e => absurd e (by decide)⟩
theorem F11.at51 (h : OwnInts w s v [0, 1]) : F11 p s B fm t2 wv 51 v w := ⟨fun e => absurd e (by decide), fun e => absurd e (by decide), fun e => absurd e (by decide), fun e => absurd e (by decide), fun e => absurd e (by decide), fun e => absurd e (by decide), fun _ => h, fun e => absurd e (by decide), fun e => absurd e (by decide), fun e => absurd e (by decide), fun e => absurd e (by decide), fun e => absurd e (by decide), fun e => absurd e (by decide), fun e => absurd e (by decide), fun e => absurd e (by decide), fun e => absurd e (by decide)⟩
theorem F11.at52 (h : OwnInts w s v [0]) : F11 p s B fm t2 wv 52 v w := ⟨fun e => absurd e (by decide), fun e => absurd e (by decide), fun e => absurd e (by decide), fun e => absurd e (by decide), fun e => absurd e (by decide), fun e => absurd e (by decide), fun e => absurd e (by decide), fun _ => h, fun e => absurd e (by decide), fun e => absurd e (by decide), fun e => absurd e (by decide), fun e => absurd e (by decide), fun e => absurd e (by decide), fun e => absurd e (by decide), fun e => absurd e (by decide), fun e => absurd e (by decide)⟩
theorem F11.at53 (h : OwnInts w s v [1]) : F11 p s B fm t2 wv 53 v w := ⟨fun e => absurd e (by decide), fun e => absurd e (by decide), fun e => absurd e (by decide), fun e => absurd e (by decide), fun e => absurd e (by decide), fun e => absurd e (by decide), fun e => absurd e (by decide), fun e => absurd e (by decide), fun _ => h, fun e => absurd e (by decide), fun e => absurd e (by decide), fun e => absurd e (by decide), fun e => absurd e (by decide), fun e => absurd e (by decide), fun e => absurd e (by decide), fun e => absurd e (by decide)⟩
theorem F11.at54 (h : ∃ (b : Nat) (cur : Array Value), v = .slice (some ⟨b, 0, none⟩) 5 5 ∧ s ≤ b ∧ w.heap[b]? = some (.cells cur 22 (0, 0)) ∧ cur.size = 5 ∧ ∀ (i : Nat) (u : Value), cur[i]? = some u → TeamOk w s u) : F11 p s B fm t2 wv 54 v w := ⟨fun e => absurd e (by decide), fun e => absurd e (by decide), fun e => absurd e (by decide), fun e => absurd e (by decide), fun e => absurd e (by decide), fun e => absurd e (by decide), fun e => absurd e (by decide), fun e => absurd e (by decide), fun e => absurd e (by decide), fun _ => h, fun e => absurd e (by decide), fun e => absurd e (by decide), fun e => absurd e (by decide), fun e => absurd e (by decide), fun e => absurd e (by decide), fun e => absurd e (by decide)⟩
theorem F11.at55  : F11 p s B fm t2 wv 55 (.pointer (some ⟨p, 0, none⟩)) w := ⟨fun e => absurd e (by decide), fun e => absurd e (by decide), fun e => absurd e (by decide), fun e => absurd e (by decide), fun e => absurd e (by decide), fun e => absurd e (by decide), fun e => absurd e (by decide), fun e => absurd e (by decide), fun e => absurd e (by decide), fun e => absurd e (by decide), fun _ => rfl, fun e => absurd e (by decide), fun e => absurd e (by decide), fun e => absurd e (by decide), fun e => absurd e (by decide), fun e => absurd e (by decide)⟩
theorem F11.at56 (h : ∃ r : Nat, r < 5 ∧ v = .int .i64 r) : F11 p s B fm t2 wv 56 v w := ⟨fun e => absurd e (by decide), fun e => absurd e (by decide), fun e => absurd e (by decide), fun e => absurd e (by decide), fun e => absurd e (by decide), fun e => absurd e (by decide), fun e => absurd e (by decide), fun e => absurd e (by decide), fun e => absurd e (by decide), fun e => absurd e (by decide), fun e => absurd e (by decide), fun _ => h, fun e => absurd e (by decide), fun e => absurd e (by decide), fun e => absurd e (by decide), fun e => absurd e (by decide)⟩
theorem F11.at57 (h : ∃ (b : Nat) (cur : Array Value) (i : Nat) (u : Value), v = .pointer (some ⟨b, i, none⟩) ∧ s ≤ b ∧ w.heap[b]? = some (.cells cur 22 (0, 0)) ∧ cur[i]? = some u ∧ TeamOk w s u) : F11 p s B fm t2 wv 57 v w := ⟨fun e => absurd e (by decide), fun e => absurd e (by decide), fun e => absurd e (by decide), fun e => absurd e (by decide), fun e => absurd e (by decide), fun e => absurd e (by decide), fun e => absurd e (by decide), fun e => absurd e (by decide), fun e => absurd e (by decide), fun e => absurd e (by decide), fun e => absurd e (by decide), fun e => absurd e (by decide), fun _ => h, fun e => absurd e (by decide), fun e => absurd e (by decide), fun e => absurd e (by decide)⟩
theorem F11.at58 (h : TeamOk w s v) : F11 p s B fm t2 wv 58 v w := ⟨fun e => absurd e (by decide), fun e => absurd e (by decide), fun e => absurd e (by decide), fun e => absurd e (by decide), fun e => absurd e (by decide), fun e => absurd e (by decide), fun e => absurd e (by decide), fun e => absurd e (by decide), fun e => absurd e (by decide), fun e => absurd e (by decide), fun e => absurd e (by decide), fun e => absurd e (by decide), fun e => absurd e (by decide), fun _ => h, fun e => absurd e (by decide), fun e => absurd e (by decide)⟩
theorem F11.at59 (h : ∃ u, v = .agg #[.int .i64 fm, .int .i64 t2, u] ∧ TeamOk w s u) : F11 p s B fm t2 wv 59 v w := ⟨fun e => absurd e (by decide), fun e => absurd e (by decide), fun e => absurd e (by decide), fun e => absurd e (by decide), fun e => absurd e (by decide), fun e => absurd e (by decide), fun e => absurd e (by decide), fun e => absurd e (by decide), fun e => absurd e (by decide), fun e => absurd e (by decide), fun e => absurd e (by decide), fun e => absurd e (by decide), fun e => absurd e (by decide), fun e => absurd e (by decide), fun _ => h, fun e => absurd e (by decide)⟩
theorem F11.at62  : F11 p s B fm t2 wv 62 (.pointer (some ⟨B, 0, none⟩)) w := ⟨fun e => absurd e (by decide), fun e => absurd e (by decide), fun e => absurd e (by decide), fun e => absurd e (by decide), fun e => absurd e (by decide), fun e => absurd e (by decide), fun e => absurd e (by decide), fun e => absurd e (by decide), fun e => absurd e (by decide), fun e => absurd e (by decide), fun e => absurd e (by decide), fun e => absurd e (by decide), fun e => absurd e (by decide), fun e => absurd e (by decide), fun e => absurd e (by decide), fun _ => rfl⟩
theorem F11.of45 (h : F11 p s B fm t2 wv 45 v w) : v = .pointer (some ⟨B, 0, none⟩) := (h.1) rfl
theorem F11.of46 (h : F11 p s B fm t2 wv 46 v w) : v = wv := (h.2.1) rfl
theorem F11.of47 (h : F11 p s B fm t2 wv 47 v w) : v = .int .i64 fm := (h.2.2.1) rfl
theorem F11.of48 (h : F11 p s B fm t2 wv 48 v w) : v = .int .i64 t2 := (h.2.2.2.1) rfl
theorem F11.of49 (h : F11 p s B fm t2 wv 49 v w) : v = .agg #[.int .i64 fm, .int .i64 t2] := (h.2.2.2.2.1) rfl
theorem F11.of50 (h : F11 p s B fm t2 wv 50 v w) : OwnInts w s v [0, 1] := (h.2.2.2.2.2.1) rfl
theorem F11.of51 (h : F11 p s B fm t2 wv 51 v w) : OwnInts w s v [0, 1] := (h.2.2.2.2.2.2.1) rfl
theorem F11.of52 (h : F11 p s B fm t2 wv 52 v w) : OwnInts w s v [0] := (h.2.2.2.2.2.2.2.1) rfl
theorem F11.of53 (h : F11 p s B fm t2 wv 53 v w) : OwnInts w s v [1] := (h.2.2.2.2.2.2.2.2.1) rfl
theorem F11.of54 (h : F11 p s B fm t2 wv 54 v w) : ∃ (b : Nat) (cur : Array Value), v = .slice (some ⟨b, 0, none⟩) 5 5 ∧ s ≤ b ∧ w.heap[b]? = some (.cells cur 22 (0, 0)) ∧ cur.size = 5 ∧ ∀ (i : Nat) (u : Value), cur[i]? = some u → TeamOk w s u := (h.2.2.2.2.2.2.2.2.2.1) rfl
theorem F11.of55 (h : F11 p s B fm t2 wv 55 v w) : v = .pointer (some ⟨p, 0, none⟩) := (h.2.2.2.2.2.2.2.2.2.2.1) rfl
theorem F11.of56 (h : F11 p s B fm t2 wv 56 v w) : ∃ r : Nat, r < 5 ∧ v = .int .i64 r := (h.2.2.2.2.2.2.2.2.2.2.2.1) rfl
theorem F11.of57 (h : F11 p s B fm t2 wv 57 v w) : ∃ (b : Nat) (cur : Array Value) (i : Nat) (u : Value), v = .pointer (some ⟨b, i, none⟩) ∧ s ≤ b ∧ w.heap[b]? = some (.cells cur 22 (0, 0)) ∧ cur[i]? = some u ∧ TeamOk w s u := (h.2.2.2.2.2.2.2.2.2.2.2.2.1) rfl
theorem F11.of58 (h : F11 p s B fm t2 wv 58 v w) : TeamOk w s v := (h.2.2.2.2.2.2.2.2.2.2.2.2.2.1) rfl
theorem F11.of59 (h : F11 p s B fm t2 wv 59 v w) : ∃ u, v = .agg #[.int .i64 fm, .int .i64 t2, u] ∧ TeamOk w s u := (h.2.2.2.2.2.2.2.2.2.2.2.2.2.2.1) rfl
theorem F11.of62 (h : F11 p s B fm t2 wv 62 v w) : v = .pointer (some ⟨B, 0, none⟩) := (h.2.2.2.2.2.2.2.2.2.2.2.2.2.2.2) rfl
end

structure T11 (s B fm t2 : Nat) (wv tv rv : Value) (ws : List Win) (tm rm : List Int) (l : Nat → Bool) (f : Nat → Value) (w : World) : Prop where
  oR : w.heap[s]? = some zeroCal
  ot : OwnInts w s tv tm
  orr : OwnInts w s rv rm
  teams : ∀ x ∈ ws, OwnInts w s x.tv x.ts
  o1 : l 16 = true → l 1 = true
  o16 : l 18 = true → l 16 = true
  old : l 16 = false → OwnWins w s wv ws
  lit : l 15 = true → l 16 = false → ∃ b u, f 60 = .slice (some ⟨b, 0, none⟩) 1 1 ∧ s ≤ b ∧ w.heap[b]? = some (.cells #[.int .i64 fm, .int .i64 t2, u] 58 (0, 0)) ∧ TeamOk w s u
  new : l 16 = true → ∃ u tl, FourB tl ∧ OwnInts w s u tl ∧ OwnWins w s (f 61) (ws ++ [⟨(fm : Int), (t2 : Int), u, tl⟩])
  b0 : l 18 = false → w.heap[B]? = some (.cells #[wv, tv, rv] 25 (0, 0))
  b1 : l 18 = true → w.heap[B]? = some (.cells #[f 61, tv, rv] 25 (0, 0))
section
variable {p s B fm t2 : Nat} {wv tv rv : Value} {ws : List Win} {tm rm : List Int} {l l' : Nat → Bool} {f f' : Nat → Value} {w w' : World}
theorem T11.hB (h : T11 s B fm t2 wv tv rv ws tm rm l f w) : B < w.heap.size := by
  cases h7 : l 18 with
  | false => exact (Array.getElem?_eq_some_iff.1 (h.b0 h7)).1
  | true => exact (Array.getElem?_eq_some_iff.1 (h.b1 h7)).1
theorem T11.hs (h : T11 s B fm t2 wv tv rv ws tm rm l f w) : s < w.heap.size := (Array.getElem?_eq_some_iff.1 h.oR).1
theorem T11.soft (h : T11 s B fm t2 wv tv rv ws tm rm l f w) (hps : p < s) (hsB : s < B) (hd : Dg p w w') (e15 : l' 15 = l 15) (e16 : l' 16 = l 16) (e18 : l' 18 = l 18) (e60 : f' 60 = f 60) (e61 : f' 61 = f 61) (e1 : l 1 = true → l' 1 = true) : T11 s B fm t2 wv tv rv ws tm rm l' f' w' := by
  have hlt := h.hs
  have he := hd.e11 (s := s) hps (by omega)
  have hB : ∀ {k : Nat} {o : Obj}, s ≤ k → w.heap[k]? = some o → w'.heap[k]? = some o := fun hk ho => (hd.block _ (by omega) (Array.getElem?_eq_some_iff.1 ho).1).trans ho
  refine ⟨hB (Nat.le_refl _) h.oR, own_e11 h.ot he, own_e11 h.orr he, fun x hx => own_e11 (h.teams x hx) he, fun e => e1 (h.o1 (by rw [← e16]; exact e)), fun e => by rw [e16]; exact h.o16 (by rw [← e18]; exact e), fun e => own_dg hps (h.old (by rw [← e16]; exact e)) hd, fun e e2 => ?_, fun e => ?_, fun e => hB (by omega) (h.b0 (by rw [← e18]; exact e)), fun e => ?_⟩
  · rw [e60]
    obtain ⟨b, u, a1, a2, a3, a5⟩ := h.lit (by rw [← e15]; exact e) (by rw [← e16]; exact e2)
    exact ⟨b, u, a1, a2, hB a2 a3, a5.keep he⟩
  · rw [e61]
    obtain ⟨u, tl, a1, a2, a3⟩ := h.new (by rw [← e16]; exact e)
    exact ⟨u, tl, a1, own_e11 a2 he, own_dg hps a3 hd⟩
  · rw [e61]
    exact hB (by omega) (h.b1 (by rw [← e18]; exact e))
end

theorem infoWin : (Try.prog.info? 58).map (fun i => (i.zero, i.size, i.bytes)) = some (some (.agg #[.int .i64 0, .int .i64 0, .slice none 0 0]), 3, 40) := by kernel_rfl
theorem undWins : Try.prog.underlying 23 = some (.slice 58) := by kernel_rfl
theorem run_append_win (w : World) (base : Nat) (ty : TypeId) (v : Value) (b : Nat) (ws : List Win) (x : Win) (hown : OwnWins w base v ws) (hb : w.heap[b]? = some (.cells #[.int .i64 x.frm, .int .i64 x.til, x.tv] 58 (0, 0))) (h1 : x.tv.oneCell' = true) (hlen : ws.length ≤ 100) (hbase : base ≤ w.heap.size) :
    ∃ v' w', (Builtin.append_ #[23, 23] ty #[v, .slice (some ⟨b, 0, none⟩) 1 1]).run Try.prog w = .ok v' w' ∧ OwnWins w' base v' (ws ++ [x]) ∧ w.grownBy w' v.ownBlock := by
  have hi := infoWin
  cases hq : Try.prog.info? 58 with
  | none => simp [hq] at hi
  | some i =>
    rw [hq] at hi
    simp only [Option.map_some, Option.some.injEq, Prod.mk.injEq] at hi
    obtain ⟨hz, hsz, hby⟩ := hi
    obtain ⟨v', w', k1, k2, k3, _⟩ := run_append_own (P := Try.prog) w base 23 ty 58 i _ 3 40 undWins hq hz hsz hby rfl (by decide) v ws.length (ws.flatMap Win.cells) hown ⟨b, 0, none⟩ 1 1 (Win.cells x) rfl (by
      intro j u hu
      have hp' : (⟨b, 0, none⟩ : Addr).add j = ⟨b, j, none⟩ := by unfold Addr.add; split <;> simp_all
      rw [hp', heap_cell hb j]
      rw [← hu]
      simp [Win.cells]) (by
      intro u hu
      simp only [Win.cells, List.mem_cons, List.not_mem_nil, or_false] at hu
      rcases hu with rfl | rfl | rfl
      · rfl
      · rfl
      · exact h1) (by unfold maxLen; omega) (by omega) hbase
    refine ⟨v', w', k1, ?_, k3⟩
    unfold OwnWins
    rw [List.length_append, List.flatMap_append]
    simpa using k2
theorem own_form {w : World} {s : Nat} {e : TypeId} {sz : Nat} {v : Value} {n : Nat} {xs : List Value} (h : w.ownsRow s e sz v n xs) : ∃ a n m, v = .slice a n m := by
  rcases h.2 with ⟨rfl, h0⟩ | ⟨g, cap, _, rfl, _⟩
  · exact ⟨_, _, _, rfl⟩
  · exact ⟨_, _, _, rfl⟩
end Go.Proofs.Ytpbahffkhpfakaa


import Derived.Test.YtpbahffkhpfakaaWCat
import Derived.Laws.ResultCell
namespace Go.Proofs.Ytpbahffkhpfakaa
open Go.RowKit
set_option linter.unusedSimpArgs false
set_option linter.unusedVariables false

/-! ## What load keeps: a calendar in a block, the result's row, the counts' row -/

theorem Below.setCells' {n : Nat} {w : World} {b : Nat} : ∀ (vs : List Value) (o : Nat) {W : World}, Below n w W → n ≤ b → Below n w (W.setCells b o vs)
  | [], o, W, h, hn => h
  | v :: r, o, W, h, hn => by
    rw [World.setCells]
    exact Below.setCells' r (o + 1) (h.setCell (p := ⟨b, o, none⟩) hn v) hn

theorem load_ret (W : World) (b : Nat) (f g : Nat → Int) (hc : Counts W b 0 256 g) (tmps : Array Value) (h8 : tmps.getD 8 undef = .pointer (some ⟨b, 0, none⟩)) :
    (results Try.f53 tmps).run Try.prog (W.setCells b 0 (nums 256 f)) = .ok (.tuple #[lval f, tmps.getD 9 undef]) (W.setCells b 0 (nums 256 f)) := by
  have h1 := run_loadVar_mid (P := Try.prog) (W.setCells b 0 (nums 256 f)) b 0 76 (nums 256 f) _ (World.rangeAt_setCells_same W b 0 (nums 256 f) (by rw [nums_length]; exact hc.there)) undL rfl (by rw [nums_length]; exact infoL)
  rw [results_cell_tmp rfl, h8]
  simp only [asAddr, Sem.run_pure, Result.andThen_ok, h1]
  rfl

structure Ld (w W : World) (c : Cal) (f : Nat → Int) : Prop where
  below : Below w.heap.size w W
  size : w.heap.size + 1 + 1 < W.heap.size
  d0 : W.cell? ⟨w.heap.size, 0, none⟩ = some c.wv
  d1 : W.cell? ⟨w.heap.size, 1, none⟩ = some c.tv
  d2 : W.cell? ⟨w.heap.size, 2, none⟩ = some c.rv
  cal0 : CalAt w c
  res : Counts W (w.heap.size + 1) 0 256 fun _ => 0
  cnt : Counts W (w.heap.size + 1 + 1) 0 256 f
theorem Ld.cal {w W : World} {c : Cal} {f : Nat → Int} (h : Ld w W c f) : CalAt W c := h.cal0.below h.below
theorem Ld.later {w W W2 : World} {c : Cal} {f : Nat → Int} (h : Ld w W c f) (hb : Below W.heap.size W W2) : Ld w W2 c f := by
  have hs := h.size
  exact ⟨h.below.trans (hb.mono h.below.size), by have := hb.size; omega, (hb.cell (p := ⟨w.heap.size, 0, none⟩) (by show w.heap.size < _; omega)).trans h.d0, (hb.cell (p := ⟨w.heap.size, 1, none⟩) (by show w.heap.size < _; omega)).trans h.d1, (hb.cell (p := ⟨w.heap.size, 2, none⟩) (by show w.heap.size < _; omega)).trans h.d2, h.cal0, h.res.below hb (by omega), h.cnt.below hb (by omega)⟩
theorem ld_of (w : World) (c : Cal) (Z : Array Value) (T : TypeId) (hZ : ∀ j, j < 256 → Z[j]? = some (.int .i64 0)) (h : CalAt w c) : Ld w (((w.alloc (.cells #[c.wv, c.tv, c.rv] 25)).alloc (.cells Z T)).alloc (.cells Z T)) c fun _ => 0 := by
  have hB := box w c h
  have s1 : (w.alloc (.cells #[c.wv, c.tv, c.rv] 25)).heap.size = w.heap.size + 1 := by simp
  generalize w.alloc (.cells #[c.wv, c.tv, c.rv] 25) = W1 at hB s1 ⊢
  have hz : ∀ (W : World) (j : Nat), j < 256 → (W.alloc (.cells Z T)).cell? ⟨W.heap.size, 0 + j, none⟩ = some (.int .i64 0) := fun W j hj => by
    rw [Nat.zero_add]
    exact (World.cell?_alloc_at _ _ _ _ rfl).trans (hZ j hj)
  have hf : ∀ (W : World) (j : Nat), (W.alloc (.cells Z T)).frozen? ⟨W.heap.size, 0 + j, none⟩ = false := fun W j => by simp
  have hb2 : Below W1.heap.size W1 (W1.alloc (.cells Z T)) := (Below.refl _ _).alloc (Nat.le_refl _) _
  have s2 : (W1.alloc (.cells Z T)).heap.size = w.heap.size + 1 + 1 := by simp [s1]
  have c2 := fun j hj => hz W1 j hj
  have f2 := fun j => hf W1 j
  rw [s1] at c2 f2
  generalize W1.alloc (.cells Z T) = W2 at hb2 s2 c2 f2 ⊢
  have hb3 : Below W2.heap.size W2 (W2.alloc (.cells Z T)) := (Below.refl _ _).alloc (Nat.le_refl _) _
  have s3 : (W2.alloc (.cells Z T)).heap.size = w.heap.size + 1 + 1 + 1 := by simp [s2]
  have c3 := fun j hj => hz W2 j hj
  have f3 := fun j => hf W2 j
  rw [s2] at c3 f3
  generalize W2.alloc (.cells Z T) = W3 at hb3 s3 c3 f3 ⊢
  have hB3 := (hB.later hb2).later hb3
  have hr2 : Counts W2 (w.heap.size + 1) 0 256 fun _ => 0 := fun j hj => ⟨c2 j hj, f2 j⟩
  exact ⟨hB3.below, by omega, hB3.d0, hB3.d1, hB3.d2, h, hr2.below hb3 (by omega), fun j hj => ⟨c3 j hj, f3 j⟩⟩
theorem zeroL_get (j : Nat) (hj : j < 256) : Try.zeroCells76[j]? = some (.int .i64 0) := by
  rw [zeroL, List.getElem?_toArray]
  exact nums_get 256 (fun _ => 0) j hj
theorem ld0 (w : World) (c : Cal) (h : CalAt w c) : Ld w (((w.alloc (.cells #[c.wv, c.tv, c.rv] 25)).alloc (.cells Try.zeroCells76 76)).alloc (.cells Try.zeroCells76 76)) c fun _ => 0 :=
  ld_of w c _ _ zeroL_get h
/-- one count more -/
theorem Ld.bump {w W : World} {c : Cal} {f : Nat → Int} (h : Ld w W c f) (o : Nat) (n : Int) (ho : o < 256) :
    Ld w (W.setCell ⟨w.heap.size + 1 + 1, o, none⟩ (.int .i64 n)) c fun i => if i = o then n else f i := by
  have hs := h.size
  have hb : Below (w.heap.size + 1 + 1) W (W.setCell ⟨w.heap.size + 1 + 1, o, none⟩ (.int .i64 n)) := (Below.refl _ _).setCell (p := ⟨w.heap.size + 1 + 1, o, none⟩) (Nat.le_refl _) _
  have hsz : W.heap.size = (W.setCell ⟨w.heap.size + 1 + 1, o, none⟩ (.int .i64 n)).heap.size := by simp [World.setCell]
  have hc0 : ∀ x : Addr, x.block < w.heap.size + 1 + 1 → (W.setCell ⟨w.heap.size + 1 + 1, o, none⟩ (.int .i64 n)).cell? x = W.cell? x := fun x hx => hb.cell hx
  have hf0 : ∀ x : Addr, (W.setCell ⟨w.heap.size + 1 + 1, o, none⟩ (.int .i64 n)).frozen? x = W.frozen? x := fun x => World.frozen?_setCell ..
  refine ⟨h.below.trans (hb.mono (by omega)), by omega, (hc0 _ (by show w.heap.size < _; omega)).trans h.d0, (hc0 _ (by show w.heap.size < _; omega)).trans h.d1, (hc0 _ (by show w.heap.size < _; omega)).trans h.d2, h.cal0, fun j hj => ⟨(hc0 _ (by show w.heap.size + 1 < _; omega)).trans (h.res j hj).1, (hf0 _).trans (h.res j hj).2⟩, fun j hj => ⟨?_, (hf0 _).trans (h.cnt j hj).2⟩⟩
  have hj2 := (h.cnt j hj).1
  rw [Nat.zero_add] at hj2 ⊢
  by_cases e : j = o
  · subst e
    simp only [if_pos]
    exact World.cell?_setCell_same W _ _ hj2
  · simp only [if_neg e]
    rw [World.cell?_setCell_other (h := by intro he; injection he with q1 q2 q3; omega)]
    exact hj2

theorem wl_load {ops : Array Oper} {rest : List Oper} {op : Oper} {a : Act} {w : World} {Q : Exit → Act → World → Prop} {b : Nat} {f : Nat → Int} (h : Counts w b 0 256 f) {x : Operand}
    (hgd : op.guard = none) (ho : op.op = .load 76 x) (hx : a.eval x = .pointer (some ⟨b, 0, none⟩)) (k : wpList Try.prog ops Q rest (a.put op.dst (lval f)) w) : wpList Try.prog ops Q (op :: rest) a w :=
  wpList_load_mid hgd _ x ho b 0 hx (nums 256 f) _ h.range undL rfl (by rw [nums_length]; exact infoL) k
theorem wl_store {ops : Array Oper} {rest : List Oper} {op : Oper} {a : Act} {w : World} {Q : Exit → Act → World → Prop} {b : Nat} {f g : Nat → Int} (h : Counts w b 0 256 g) {x y : Operand}
    (hgd : op.guard = none) (ho : op.op = .store 76 x y) (hx : a.eval x = .pointer (some ⟨b, 0, none⟩)) (hy : a.eval y = lval f) (k : wpList Try.prog ops Q rest (a.put op.dst undef) (w.setCells b 0 (nums 256 f))) : wpList Try.prog ops Q (op :: rest) a w := by
  refine wpList_store_mid hgd 76 x y ho b 0 (nums 256 f).toArray hx hy ?_ ?_ (nums_all 256 f) ?_
  · rw [List.size_toArray, nums_length]; exact h.there
  · rw [List.size_toArray, nums_length]; exact infoL
  · exact k
theorem wo_load {op : Oper} {a : Act} {w : World} {K : Act → World → Prop} {Q : Exit → Act → World → Prop} {b : Nat} {f : Nat → Int} (h : Counts w b 0 256 f) {x : Operand}
    (ho : op.op = .load 76 x) (hx : a.eval x = .pointer (some ⟨b, 0, none⟩)) (k : K (a.put op.dst (lval f)) w) : op.wp Try.prog a w K Q :=
  wp_load_mid _ x ho b 0 hx (nums 256 f) _ h.range undL rfl (by rw [nums_length]; exact infoL) k
theorem wo_store {op : Oper} {a : Act} {w : World} {K : Act → World → Prop} {Q : Exit → Act → World → Prop} {b : Nat} {f g : Nat → Int} (h : Counts w b 0 256 g) {x y : Operand}
    (ho : op.op = .store 76 x y) (hx : a.eval x = .pointer (some ⟨b, 0, none⟩)) (hy : a.eval y = lval f) (k : K (a.put op.dst undef) (w.setCells b 0 (nums 256 f))) : op.wp Try.prog a w K Q := by
  refine wp_store_mid 76 x y ho b 0 (nums 256 f).toArray hx hy ?_ ?_ (nums_all 256 f) ?_
  · rw [List.size_toArray, nums_length]; exact h.there
  · rw [List.size_toArray, nums_length]; exact infoL
  · exact k
end Go.Proofs.Ytpbahffkhpfakaa

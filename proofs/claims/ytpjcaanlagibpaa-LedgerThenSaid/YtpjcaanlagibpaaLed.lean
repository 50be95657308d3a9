import Derived.Test.YtpjcaanlagibpaaDec
import Derived.Laws.AppendOwn
import Derived.OwnWalk
import Derived.Maps.AppendAt
import Derived.ChangeOld
namespace Go.Proofs.Ytpjcaanlagibpaa
open Go.RowKit
set_option linter.unusedSimpArgs false
set_option linter.unusedVariables false

def Dec.cells (d : Dec) : List Value := [.int .i64 d.day, .int .i64 d.known, .int .i64 d.kind, .int .i64 d.subject, .int .i64 d.value]
def flat (ds : List Dec) : List Value := ds.flatMap Dec.cells

theorem flat_length (ds : List Dec) : (flat ds).length = ds.length * 5 := by
  induction ds with
  | nil => rfl
  | cons d ds ih => simp only [flat, List.flatMap_cons, List.length_append, List.length_cons] at ih ⊢; rw [ih]; simp [Dec.cells]; omega
theorem flat_snoc (ds : List Dec) (d : Dec) : flat (ds ++ [d]) = flat ds ++ Dec.cells d := by simp [flat]
theorem flat_at : ∀ (ds : List Dec) (i : Nat) (h : i < ds.length) (j : Nat) (hj : j < 5), (flat ds)[i * 5 + j]? = (Dec.cells ds[i])[j]?
  | d :: ds, 0, h, j, hj => by
    simp only [flat, List.flatMap_cons, Nat.zero_mul, Nat.zero_add, List.getElem_cons_zero]
    rw [List.getElem?_append_left (by simpa [Dec.cells] using hj)]
  | d :: ds, i + 1, h, j, hj => by
    have ih := flat_at ds i (by simpa using h) j hj
    simp only [flat, List.flatMap_cons, List.getElem_cons_succ] at ih ⊢
    rw [List.getElem?_append_right (by simp [Dec.cells]; omega)]
    rw [show (i + 1) * 5 + j - (Dec.cells d).length = i * 5 + j from by simp [Dec.cells]; omega]
    exact ih

/-- each decision follows those before it -/
def OKs (ds : List Dec) : Prop := ∀ i (h : i < ds.length), followsE (ds.take i) ds[i] = 0
theorem OKs.nil : OKs [] := fun i h => by simp at h
theorem OKs.snoc {ds : List Dec} {d : Dec} (h : OKs ds) (hd : followsE ds d = 0) : OKs (ds ++ [d]) := by
  intro i hi
  by_cases hlt : i < ds.length
  · rw [List.take_append_of_le_length (by omega), List.getElem_append_left hlt]; exact h i hlt
  · have : i = ds.length := by simp at hi; omega
    subst this
    simp [hd]
theorem OKs.check {ds : List Dec} (h : OKs ds) : ∀ k, checkFrom ds k = 0 := by
  intro k
  induction hn : ds.length - k generalizing k with
  | zero => rw [checkFrom, dif_neg (by omega)]
  | succ n ih =>
    rw [checkFrom, dif_pos (by omega), if_pos (h k (by omega))]
    exact ih (k + 1) (by omega)
theorem OKs.ok {ds : List Dec} (h : OKs ds) {d : Dec} (hd : d ∈ ds) : d.ok = true := by
  obtain ⟨i, hi, rfl⟩ := List.getElem_of_mem hd
  have := h i hi
  unfold followsE at this
  by_cases hok : ds[i].ok = true
  · exact hok
  · rw [if_neg hok] at this; omega

/-- an owned row of decisions -/
def OwnDecs (w : World) (base : Nat) (v : Value) (ds : List Dec) : Prop := w.ownsRow base 27 5 v ds.length (flat ds)

theorem OwnDecs.cases {w : World} {base : Nat} {v : Value} {ds : List Dec} (h : OwnDecs w base v ds) :
    (v = .slice none 0 0 ∧ ds = []) ∨ ∃ g cap, v = .slice (some ⟨g, 0, none⟩) ds.length cap ∧ base ≤ g ∧ g < w.heap.size ∧ ds.length ≤ cap ∧ DecsAt w g 0 ds := by
  obtain ⟨hl, h | ⟨g, cap, cur, rfl, hg, hh, hn, hc, hs, ht⟩⟩ := h
  · exact .inl ⟨h.1, List.eq_nil_of_length_eq_zero h.2⟩
  · refine .inr ⟨g, cap, rfl, hg, (Array.getElem?_eq_some_iff.1 hh).1, hn, fun i hi => ?_⟩
    have hcell : ∀ j, j < 5 → w.cell? ⟨g, 0 + i * 5 + j, none⟩ = (Dec.cells ds[i])[j]? := by
      intro j hj
      have e1 : w.cell? ⟨g, 0 + i * 5 + j, none⟩ = cur[0 + i * 5 + j]? := by
        unfold World.cell?
        rw [hh]
        simp
      rw [e1, ← flat_at ds i hi j hj, ← ht, List.getElem?_take, if_pos (by omega), Nat.zero_add, Array.getElem?_toList]
    exact ⟨hcell 0 (by omega), hcell 1 (by omega), hcell 2 (by omega), hcell 3 (by omega), hcell 4 (by omega)⟩

theorem OwnDecs.kept {w w' : World} {base : Nat} {v : Value} {ds : List Dec} (h : OwnDecs w base v ds) (hb : ∀ k, base ≤ k → k < w.heap.size → w'.heap[k]? = w.heap[k]?) : OwnDecs w' base v ds := by
  obtain ⟨hl, h | ⟨g, cap, cur, hv, hg, hh, r⟩⟩ := h
  · exact ⟨hl, .inl h⟩
  · exact ⟨hl, .inr ⟨g, cap, cur, hv, hg, by rw [hb g hg (Array.getElem?_eq_some_iff.1 hh).1]; exact hh, r⟩⟩

theorem OwnDecs.kept' {w w' : World} {base base' : Nat} {v : Value} {ds : List Dec} (h : OwnDecs w base v ds) (hbb : base' ≤ base) (hb : ∀ k, base ≤ k → k < w.heap.size → w'.heap[k]? = w.heap[k]?) : OwnDecs w' base' v ds := by
  obtain ⟨hl, h | ⟨g, cap, cur, hv, hg, hh, r⟩⟩ := h
  · exact ⟨hl, .inl h⟩
  · exact ⟨hl, .inr ⟨g, cap, cur, hv, Nat.le_trans hbb hg, by rw [hb g hg (Array.getElem?_eq_some_iff.1 hh).1]; exact hh, r⟩⟩

def IsLast (ds : List Dec) (a k c s v : Nat) : Prop := (ds = [] ∧ a = 0 ∧ k = 0) ∨ ds.getLast? = some ⟨a, k, c, s, v⟩

theorem follows_next_ok {ds : List Dec} {a k c s v a' k' c' s' v' : Nat} (h : IsLast ds a k c s v) (ha : a ≤ a') (hk : k ≤ k') (ha2 : a' ≤ 40000) (hk2 : k' ≤ 400) (hc1 : 1 ≤ c') (hc2 : c' ≤ 5) (hs : s' ≤ 2) (hv : v' ≤ 1) :
    followsE ds ⟨a', k', c', s', v'⟩ = 0 := by
  have hok : Dec.ok ⟨a', k', c', s', v'⟩ = true := by
    simp [Dec.ok, validB, inB]; omega
  unfold followsE
  rw [if_pos hok]
  rcases h with ⟨rfl, _⟩ | h
  · rfl
  · rw [h]
    show (if ((a' : Int) < (a : Int) ∨ (k' : Int) < (k : Int)) then (6 : Int) else 0) = 0
    rw [if_neg (by omega)]

def LedgerOut (p most : Nat) (w : World) (e : Ending) (w' : World) : Prop :=
  ∃ (v : Value) (ds : List Dec), e = .returned (.agg #[v]) ∧ OKs ds ∧ ds.length ≤ most ∧ OwnDecs w' w.heap.size v ds ∧ Dg p w w'

theorem infoDec : (Try.prog.info? 27).map (fun i => (i.zero, i.size, i.bytes)) = some (some (.agg #[.int .i64 0, .int .i64 0, .int .i64 0, .int .i64 0, .int .i64 0]), 5, 40) := by kernel_rfl

/-- what holds at the head of each round -/
structure Led (p B most : Nat) (w wr : World) (j : Nat) (v : Value) (ds : List Dec) (a k c s x : Nat) : Prop where
  dg : Dg p w wr
  cell : wr.cell? ⟨B + 1, 0, none⟩ = some v
  free : wr.frozen? ⟨B + 1, 0, none⟩ = false
  out : ∃ u, wr.cell? ⟨B, 0, none⟩ = some u
  ofree : wr.frozen? ⟨B, 0, none⟩ = false
  last : DecAt wr (B + 1 + 1) 0 ⟨a, k, c, s, x⟩
  lfree : ∀ o, wr.frozen? ⟨B + 1 + 1, o, none⟩ = false
  own : OwnDecs wr (B + 1 + 1 + 1) v ds
  size : B + 1 + 1 + 1 ≤ wr.heap.size
  oks : OKs ds
  isl : IsLast ds a k c s x
  len : ds.length + j ≤ most
  a2 : a ≤ 2 * ds.length
  k2 : k ≤ ds.length

theorem DecAt.of_cells {w w' : World} {b o : Nat} {d : Dec} (h : DecAt w b o d) (hc : ∀ i, w'.cell? ⟨b, i, none⟩ = w.cell? ⟨b, i, none⟩) : DecAt w' b o d :=
  ⟨(hc _).trans h.1, (hc _).trans h.2.1, (hc _).trans h.2.2.1, (hc _).trans h.2.2.2.1, (hc _).trans h.2.2.2.2⟩

theorem Led.dgr {p B most : Nat} {w wr wr' : World} {j : Nat} {v : Value} {ds : List Dec} {a k c s x : Nat} (h : Led p B most w wr j v ds a k c s x) (hk : Dg p wr wr') (hp : p < B) : Led p B most w wr' j v ds a k c s x := by
  obtain ⟨u, hu⟩ := h.out
  have hs := h.size
  exact ⟨h.dg.trans hk, (hk.cell (by show B + 1 ≠ p; omega) (by show B + 1 < _; omega)).trans h.cell, (hk.frozen (by show B + 1 ≠ p; omega) (by show B + 1 < _; omega)).trans h.free, ⟨u, (hk.cell (by show B ≠ p; omega) (by show B < _; omega)).trans hu⟩, (hk.frozen (by show B ≠ p; omega) (by show B < _; omega)).trans h.ofree,
    h.last.of_cells (fun i => hk.cell (by show B + 1 + 1 ≠ p; omega) (by show B + 1 + 1 < _; omega)), fun o => (hk.frozen (by show B + 1 + 1 ≠ p; omega) (by show B + 1 + 1 < _; omega)).trans (h.lfree o), h.own.kept (fun k hk1 hk2 => hk.block k (by omega) hk2), Nat.le_trans hs hk.size, h.oks, h.isl, h.len, h.a2, h.k2⟩

theorem Led.dk {p B most : Nat} {w wr wr' : World} {j : Nat} {v : Value} {ds : List Dec} {a k c s x : Nat} (h : Led p B most w wr j v ds a k c s x) (hk : Dk p wr wr') (hp : p < B) : Led p B most w wr' j v ds a k c s x := by
  obtain ⟨u, hu⟩ := h.out
  exact ⟨h.dg.trans hk.dg, (hk.cell (by show B + 1 ≠ p; omega)).trans h.cell, (hk.frozen (by show B + 1 ≠ p; omega)).trans h.free, ⟨u, (hk.cell (by show B ≠ p; omega)).trans hu⟩, (hk.frozen (by show B ≠ p; omega)).trans h.ofree,
    h.last.of_cells (fun i => hk.cell (by show B + 1 + 1 ≠ p; omega)), fun o => (hk.frozen (by show B + 1 + 1 ≠ p; omega)).trans (h.lfree o), h.own.kept (fun k hk1 _ => hk.block k (by omega)), by rw [hk.size]; exact h.size, h.oks, h.isl, h.len, h.a2, h.k2⟩

def nest5 (V : World) (B : Nat) (x0 x1 x2 x3 x4 : Value) : World := ((((V.setCell ⟨B, 0, none⟩ x0).setCell ⟨B, 1, none⟩ x1).setCell ⟨B, 2, none⟩ x2).setCell ⟨B, 3, none⟩ x3).setCell ⟨B, 4, none⟩ x4
theorem nest5_size (V : World) (B : Nat) (x0 x1 x2 x3 x4 : Value) : (nest5 V B x0 x1 x2 x3 x4).heap.size = V.heap.size := by simp [nest5]
theorem nest5_block (V : World) (B : Nat) (x0 x1 x2 x3 x4 : Value) (k : Nat) (hk : k ≠ B) : (nest5 V B x0 x1 x2 x3 x4).heap[k]? = V.heap[k]? := by
  unfold nest5
  rw [Below.heap_setCell _ _ _ _ hk, Below.heap_setCell _ _ _ _ hk, Below.heap_setCell _ _ _ _ hk, Below.heap_setCell _ _ _ _ hk, Below.heap_setCell _ _ _ _ hk]
theorem nest5_frozen (V : World) (B : Nat) (x0 x1 x2 x3 x4 : Value) (a : Addr) : (nest5 V B x0 x1 x2 x3 x4).frozen? a = V.frozen? a := by
  unfold nest5; simp only [World.frozen?_setCell]
theorem nest5_far (V : World) (B : Nat) (x0 x1 x2 x3 x4 : Value) (a : Addr) (ha : a.block ≠ B) : (nest5 V B x0 x1 x2 x3 x4).cell? a = V.cell? a := World.cell?_of_block (w := V) (nest5_block V B x0 x1 x2 x3 x4 a.block ha)
theorem nest5_at (V : World) (B : Nat) (d d' : Dec) (h : DecAt V B 0 d) : DecAt (nest5 V B (.int .i64 d'.day) (.int .i64 d'.known) (.int .i64 d'.kind) (.int .i64 d'.subject) (.int .i64 d'.value)) B 0 d' :=
  five_cells V B _ _ _ _ _ (fun j hj => by
    obtain ⟨h0, h1, h2, h3, h4⟩ := h
    match j, hj with
    | 0, _ => exact ⟨_, h0⟩
    | 1, _ => exact ⟨_, h1⟩
    | 2, _ => exact ⟨_, h2⟩
    | 3, _ => exact ⟨_, h3⟩
    | 4, _ => exact ⟨_, h4⟩)

/-- the world in which append is called: the new decision is stored, and lies in a block of its own -/
structure Mid (p B most : Nat) (w W5 : World) (T : Nat) (j : Nat) (v : Value) (ds : List Dec) (d : Dec) : Prop where
  dg : Dg p w W5
  cell : W5.cell? ⟨B + 1, 0, none⟩ = some v
  free : W5.frozen? ⟨B + 1, 0, none⟩ = false
  out : ∃ u, W5.cell? ⟨B, 0, none⟩ = some u
  ofree : W5.frozen? ⟨B, 0, none⟩ = false
  last : DecAt W5 (B + 1 + 1) 0 d
  lfree : ∀ o, W5.frozen? ⟨B + 1 + 1, o, none⟩ = false
  own : OwnDecs W5 (B + 1 + 1 + 1) v ds
  size : B + 1 + 1 + 1 ≤ W5.heap.size
  tmp : ∀ i u, (Dec.cells d)[i]? = some u → W5.cell? ((⟨T, 0, none⟩ : Addr).add i) = some u

theorem Led.stored {p B most : Nat} {w w2 : World} {j : Nat} {v : Value} {ds : List Dec} {a k c s x : Nat} (h : Led p B most w w2 j v ds a k c s x) (hp : p < B) (hB : w.heap.size ≤ B) (hB2 : p < w.heap.size) (d : Dec) :
    Mid p B most w ((nest5 w2 (B + 1 + 1) (.int .i64 d.day) (.int .i64 d.known) (.int .i64 d.kind) (.int .i64 d.subject) (.int .i64 d.value)).alloc (.cells #[.int .i64 d.day, .int .i64 d.known, .int .i64 d.kind, .int .i64 d.subject, .int .i64 d.value] 27)) w2.heap.size j v ds d := by
  have hs := h.size
  have hn := nest5_size w2 (B + 1 + 1) (.int .i64 d.day) (.int .i64 d.known) (.int .i64 d.kind) (.int .i64 d.subject) (.int .i64 d.value)
  have hfar := nest5_far w2 (B + 1 + 1) (.int .i64 d.day) (.int .i64 d.known) (.int .i64 d.kind) (.int .i64 d.subject) (.int .i64 d.value)
  have hfro := nest5_frozen w2 (B + 1 + 1) (.int .i64 d.day) (.int .i64 d.known) (.int .i64 d.kind) (.int .i64 d.subject) (.int .i64 d.value)
  have hblk := nest5_block w2 (B + 1 + 1) (.int .i64 d.day) (.int .i64 d.known) (.int .i64 d.kind) (.int .i64 d.subject) (.int .i64 d.value)
  have hat := nest5_at w2 (B + 1 + 1) _ d h.last
  have hdg : Dg p w (nest5 w2 (B + 1 + 1) (.int .i64 d.day) (.int .i64 d.known) (.int .i64 d.kind) (.int .i64 d.subject) (.int .i64 d.value)) := by
    unfold nest5
    exact ((((h.dg.setCell (by show _ ≤ B + 1 + 1; omega) (by show B + 1 + 1 ≠ p; omega) hB2 _).setCell (by show _ ≤ B + 1 + 1; omega) (by show B + 1 + 1 ≠ p; omega) hB2 _).setCell (by show _ ≤ B + 1 + 1; omega) (by show B + 1 + 1 ≠ p; omega) hB2 _).setCell (by show _ ≤ B + 1 + 1; omega) (by show B + 1 + 1 ≠ p; omega) hB2 _).setCell (by show _ ≤ B + 1 + 1; omega) (by show B + 1 + 1 ≠ p; omega) hB2 _
  generalize nest5 w2 (B + 1 + 1) (.int .i64 d.day) (.int .i64 d.known) (.int .i64 d.kind) (.int .i64 d.subject) (.int .i64 d.value) = W4 at *
  obtain ⟨u, hu⟩ := h.out
  have hal : Below W4.heap.size W4 (W4.alloc (.cells #[.int .i64 d.day, .int .i64 d.known, .int .i64 d.kind, .int .i64 d.subject, .int .i64 d.value] 27)) := (Below.refl _ _).alloc (Nat.le_refl _) _
  refine ⟨hdg.trans (Dg.of_below hal hdg.dice), ?_, ?_, ⟨u, ?_⟩, ?_, ?_, ?_, ?_, ?_, ?_⟩
  · rw [hal.cell (by show B + 1 < _; omega), hfar _ (by show B + 1 ≠ _; omega)]; exact h.cell
  · rw [hal.frozen (by show B + 1 < _; omega), hfro]; exact h.free
  · rw [hal.cell (by show B < _; omega), hfar _ (by show B ≠ _; omega)]; exact hu
  · rw [hal.frozen (by show B < _; omega), hfro]; exact h.ofree
  · exact hat.of_cells (fun i => hal.cell (by show B + 1 + 1 < _; omega))
  · intro o; rw [hal.frozen (by show B + 1 + 1 < _; omega), hfro]; exact h.lfree o
  · exact h.own.kept (fun k hk1 hk2 => by rw [hal.block k (by omega), hblk k (by omega)])
  · have := hal.size; omega
  · intro i u' hu'
    rw [← hn]
    have hp' : (⟨W4.heap.size, 0, none⟩ : Addr).add i = ⟨W4.heap.size, i, none⟩ := by unfold Addr.add; split <;> simp_all
    rw [hp', World.cell?_alloc_at _ _ _ _ rfl, ← hu']
    simp [Dec.cells]

theorem Mid.after {p B most : Nat} {w W5 W6 : World} {T j : Nat} {v : Value} {ds : List Dec} {d : Dec} (h : Mid p B most w W5 T j v ds d) (hg : W5.grownBy W6 v.ownBlock) :
    W6.cell? ⟨B + 1, 0, none⟩ = some v ∧ W6.frozen? ⟨B + 1, 0, none⟩ = false := by
  have hs := h.size
  have hrow : ∀ q, v.ownBlock = some q → B + 1 + 1 + 1 ≤ q := by
    intro q hq
    rcases h.own.cases with ⟨rfl, _⟩ | ⟨g, cap, rfl, hge, _⟩
    · simp [Value.ownBlock] at hq
    · simp [Value.ownBlock] at hq; omega
  have hblk : ∀ q, q < B + 1 + 1 + 1 → W6.heap[q]? = W5.heap[q]? := fun q hq => hg.block q (by omega) (fun e => by have := hrow q e.symm; omega)
  exact ⟨(World.cell?_of_block (w := W5) (a := ⟨B + 1, 0, none⟩) (hblk _ (by show B + 1 < _; omega))).trans h.cell, (World.frozen?_of_block (w := W5) (a := ⟨B + 1, 0, none⟩) (hblk _ (by show B + 1 < _; omega))).trans h.free⟩

theorem Mid.appended {p B most : Nat} {w W5 W6 : World} {T j : Nat} {v v' : Value} {ds : List Dec} {a' k' c' s' x' : Nat} (h : Mid p B most w W5 T j v ds ⟨a', k', c', s', x'⟩) (hp : p < w.heap.size) (hpB : p < B) (hB : w.heap.size ≤ B)
    (hown : W6.ownsRow (B + 1 + 1 + 1) 27 5 v' (ds.length + 1) (flat ds ++ Dec.cells ⟨a', k', c', s', x'⟩)) (hg : W5.grownBy W6 v.ownBlock)
    (ho : OKs ds) (hf : followsE ds ⟨a', k', c', s', x'⟩ = 0) (hj : 0 < j) (hl : ds.length + j ≤ most) (ha2 : a' ≤ 2 * (ds.length + 1)) (hk2 : k' ≤ ds.length + 1) :
    Led p B most w (W6.setCell ⟨B + 1, 0, none⟩ v') (j - 1) v' (ds ++ [⟨a', k', c', s', x'⟩]) a' k' c' s' x' := by
  have hs := h.size
  have hrow : ∀ q, v.ownBlock = some q → B + 1 + 1 + 1 ≤ q := by
    intro q hq
    rcases h.own.cases with ⟨rfl, _⟩ | ⟨g, cap, rfl, hge, _⟩
    · simp [Value.ownBlock] at hq
    · simp [Value.ownBlock] at hq; omega
  have hblk : ∀ q, q < B + 1 + 1 + 1 → W6.heap[q]? = W5.heap[q]? := fun q hq => hg.block q (by omega) (fun e => by have := hrow q e.symm; omega)
  have hcell : ∀ y : Addr, y.block < B + 1 + 1 + 1 → W6.cell? y = W5.cell? y := fun y hy => World.cell?_of_block (w := W5) (hblk _ hy)
  have hfro : ∀ y : Addr, y.block < B + 1 + 1 + 1 → W6.frozen? y = W5.frozen? y := fun y hy => World.frozen?_of_block (w := W5) (hblk _ hy)
  have hd6 : Dg p w W6 := ⟨hg.os.trans h.dg.os, hg.tape.trans h.dg.tape, hg.output.trans h.dg.output, Nat.le_trans h.dg.size hg.size, fun q hq hqs => (hblk q (by omega)).trans (h.dg.block q hq hqs),
    h.dg.dice.below ⟨hg.os, hg.tape, hg.output, hg.size, fun q hq => hblk q (by omega)⟩⟩
  obtain ⟨u, hu⟩ := h.out
  have hc1 := (hcell ⟨B + 1, 0, none⟩ (by show B + 1 < _; omega)).trans h.cell
  have hlen : (ds ++ [(⟨a', k', c', s', x'⟩ : Dec)]).length = ds.length + 1 := by simp
  refine ⟨hd6.setCell (by show _ ≤ B + 1; omega) (by show B + 1 ≠ p; omega) hp _, World.cell?_setCell_same _ _ _ hc1, ?_, ⟨u, ?_⟩, ?_, ?_, ?_, ?_, ?_, ho.snoc hf, .inr (by simp), by rw [hlen]; omega, by rw [hlen]; exact ha2, by rw [hlen]; exact hk2⟩
  · rw [World.frozen?_setCell, hfro _ (by show B + 1 < _; omega)]; exact h.free
  · rw [World.cell?_setCell_far _ _ _ _ (by show B + 1 ≠ B; omega), hcell _ (by show B < _; omega)]; exact hu
  · rw [World.frozen?_setCell, hfro _ (by show B < _; omega)]; exact h.ofree
  · exact h.last.of_cells (fun i => by rw [World.cell?_setCell_far _ _ _ _ (by show B + 1 ≠ B + 1 + 1; omega), hcell _ (by show B + 1 + 1 < _; omega)])
  · intro o; rw [World.frozen?_setCell, hfro _ (by show B + 1 + 1 < _; omega)]; exact h.lfree o
  · unfold OwnDecs
    rw [hlen, flat_snoc]
    exact ownsRow_setCell_below hown (by show B + 1 < _; omega) _
  · rw [World.size_setCell]; exact Nat.le_trans hs hg.size

end Go.Proofs.Ytpjcaanlagibpaa

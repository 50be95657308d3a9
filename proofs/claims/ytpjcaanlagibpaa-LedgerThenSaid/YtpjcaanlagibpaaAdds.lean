import Derived.Test.YtpjcaanlagibpaaWake
import Derived.Test.YtpjcaanlagibpaaLawKn
import Derived.Test.YtpjcaanlagibpaaAddF
import Derived.Test.YtpjcaanlagibpaaEqual
import Derived.Deep.RegionLaw
namespace Go
open Go.RowKit

theorem run_append_new_Ytpjcaanlagibpaa {P : Program} (w : World) (base : Nat) (t ty e : TypeId) (i : TypeInfo) (z : Value) (size bytes : Nat) (ht : P.underlying t = some (.slice e)) (hi : P.info? e = some i) (hz : i.zero = some z)
    (hsize : i.size = size) (hby : i.bytes = bytes) (hzs : z.cells.size = size) (hsz : 0 < size)
    (v : Value) (n : Nat) (xs : List Value) (hown : w.ownsRow base e size v n xs)
    (a : Addr) (m c : Nat) (news : List Value) (hl : news.length = m * size) (hnews : ∀ j u, news[j]? = some u → w.cell? (a.add j) = some u) (h1 : ∀ u ∈ news, u.oneCell' = true)
    (h63 : n + m ≤ maxLen) (hbytes : (n + m) * bytes ≤ 140737488355328) (hbase : base ≤ w.heap.size) :
    ∃ v' w', (Builtin.append_ #[t, t] ty #[v, .slice (some a) m c]).run P w = .ok v' w' ∧ w'.ownsRow base e size v' (n + m) (xs ++ news) ∧ w.grownBy w' v.ownBlock ∧
      (v'.ownBlock = v.ownBlock ∨ ∀ q, v'.ownBlock = some q → w.heap.size ≤ q) := by
  obtain ⟨v', w', hr, h2, h3, h4⟩ := run_append_own (P := P) w base t ty e i z size bytes ht hi hz hsize hby hzs hsz v n xs hown a m c news hl hnews h1 h63 hbytes hbase
  refine ⟨v', w', hr, h2, h3, ?_⟩
  rcases hown.2 with ⟨rfl, rfl⟩ | ⟨g, cap, cur, rfl, hbg, hg, hnc, hcm, hcs, htake⟩
  · obtain rfl : xs = [] := List.eq_nil_of_length_eq_zero (by simpa using hown.1)
    obtain ⟨v2, w2, hr2, k2, _, _⟩ := run_append_own (P := P) w w.heap.size t ty e i z size bytes ht hi hz hsize hby hzs hsz (.slice none 0 0) 0 [] (World.ownsRow_nil w _ e size) a m c news hl hnews h1 h63 hbytes (Nat.le_refl _)
    rw [hr] at hr2
    injection hr2 with e1 e2
    subst e1
    exact .inr fun q hq => (k2.lt q hq).1
  · by_cases hroom : n + m ≤ cap
    · subst hsize
      have hr3 := run_append_room (P := P) w t ty e i ht hi g n cap cur hg a m c news hl hnews h1 hroom (by rw [hl, hcs, ← Nat.add_mul]; exact Nat.mul_le_mul_right _ hroom)
      rw [hr] at hr3
      injection hr3 with e1 e2
      subst e1
      exact .inl rfl
    · have holds : ∀ j u, xs[j]? = some u → w.cell? ((⟨g, 0, none⟩ : Addr).add j) = some u := hown.cells (g := g) rfl
      obtain ⟨v2, w2, hr2, k2, _⟩ := run_append_arg_grows (P := P) w t ty e i z size bytes ht hi hz hsize hby hzs hsz ⟨g, 0, none⟩ n cap xs hown.1 holds a m c news hl hnews (by omega) h63 hbytes
      rw [hr] at hr2
      injection hr2 with e1 e2
      subst e1
      exact .inr fun q hq => (k2.lt q hq).1

/-- append onto a row of the call's own, as one step of a region that draws -/
theorem step_append_new_Ytpjcaanlagibpaa {P : Program} {ops : Array Oper} {o : Oper} {a : Act} {w : World} {K : Act → World → Prop} {Q : Exit → Act → World → Prop} {E : Prop}
    (hg : o.guard = none) (s x : Operand) (t : TypeId) (hop : o.op = Op.call { callee := Callee.builtin Builtin.append, args := #[s, x], argTypes := #[t, t] })
    (base : Nat) (e : TypeId) (i : TypeInfo) (z : Value) (size bytes : Nat) (ht : P.underlying t = some (.slice e)) (hi : P.info? e = some i) (hz : i.zero = some z)
    (hsize : i.size = size) (hby : i.bytes = bytes) (hzs : z.cells.size = size) (hsz : 0 < size)
    (v : Value) (n : Nat) (xs : List Value) (hs : a.eval s = v) (hown : w.ownsRow base e size v n xs)
    (ad : Addr) (m c : Nat) (news : List Value) (hx : a.eval x = .slice (some ad) m c) (hl : news.length = m * size) (hnews : ∀ j u, news[j]? = some u → w.cell? (ad.add j) = some u) (h1 : ∀ u ∈ news, u.oneCell' = true)
    (h63 : n + m ≤ maxLen) (hbytes : (n + m) * bytes ≤ 140737488355328) (hbase : base ≤ w.heap.size)
    (h : ∀ v' w', w'.ownsRow base e size v' (n + m) (xs ++ news) → w.grownBy w' v.ownBlock → (v'.ownBlock = v.ownBlock ∨ ∀ q, v'.ownBlock = some q → w.heap.size ≤ q) → K (a.put o.dst v') w') :
    if Region.wanted o (yielded ops a.tmps) = true then Oper.wp P o a w K Q else E := by
  have hw : Region.wanted o (yielded ops a.tmps) = true := by simp [Region.wanted, hg]
  rw [if_pos hw]
  obtain ⟨v', w', hr, h2, h3, h4⟩ := run_append_new_Ytpjcaanlagibpaa (P := P) w base t o.type e i z size bytes ht hi hz hsize hby hzs hsz v n xs hown ad m c news hl hnews h1 h63 hbytes hbase
  unfold Oper.wp execOp
  simp only [hop, resolve, invoke, builtin, Sem.run_bind, Sem.run_pure, Result.andThen_ok, List.map_toArray, List.map_cons, List.map_nil, hs, hx, hr]
  exact h v' w' h2 h3 h4
end Go

namespace Go.Proofs.Ytpjcaanlagibpaa
open Go.RowKit
set_option linter.unusedSimpArgs false
set_option linter.unusedVariables false

/-- what holds at the head of each round of LedgerAdds -/
structure Adds (p Bl : Nat) (w1 wr : World) (v vw : Value) (ds : List Dec) (d : Dec) : Prop where
  dg : Dg p w1 wr
  cell : wr.cell? ⟨Bl, 0, none⟩ = some v
  free : wr.frozen? ⟨Bl, 0, none⟩ = false
  last : DecAt wr (Bl + 1) 0 d
  lfree : ∀ o, wr.frozen? ⟨Bl + 1, o, none⟩ = false
  sd : SliceDecs wr v ds
  own : OwnDecs wr (Bl + 2) vw ds
  ne : ∀ g n m, v = .slice (some ⟨g, 0, none⟩) n m → Bl + 2 ≤ g ∧ vw.ownBlock ≠ some g
  size : Bl + 2 ≤ wr.heap.size

theorem Adds.keep {p Bl : Nat} {w1 wr wr' : World} {v vw : Value} {ds : List Dec} {d : Dec} (h : Adds p Bl w1 wr v vw ds d) (hdg : Dg p w1 wr') (hs : wr.heap.size ≤ wr'.heap.size) (hb : ∀ k, Bl ≤ k → k < wr.heap.size → wr'.heap[k]? = wr.heap[k]?) : Adds p Bl w1 wr' v vw ds d := by
  have hz := h.size
  have hc : ∀ y : Addr, Bl ≤ y.block → y.block < wr.heap.size → wr'.cell? y = wr.cell? y := fun y h1 h2 => World.cell?_of_block (w := wr) (hb _ h1 h2)
  have hf : ∀ y : Addr, Bl ≤ y.block → y.block < wr.heap.size → wr'.frozen? y = wr.frozen? y := fun y h1 h2 => World.frozen?_of_block (w := wr) (hb _ h1 h2)
  refine ⟨hdg, (hc ⟨Bl, 0, none⟩ (Nat.le_refl _) (by show Bl < _; omega)).trans h.cell, (hf ⟨Bl, 0, none⟩ (Nat.le_refl _) (by show Bl < _; omega)).trans h.free, ?_, ?_, ?_, ?_, h.ne, by omega⟩
  · exact h.last.of_cells (fun i => hc ⟨Bl + 1, i, none⟩ (by show Bl ≤ Bl + 1; omega) (by show Bl + 1 < _; omega))
  · exact fun o => (hf ⟨Bl + 1, o, none⟩ (by show Bl ≤ Bl + 1; omega) (by show Bl + 1 < _; omega)).trans (h.lfree o)
  · rcases h.sd with ⟨h1, h2⟩ | ⟨g, cap, h1, h2, h3, h4⟩
    · exact .inl ⟨h1, h2⟩
    · refine .inr ⟨g, cap, h1, by omega, h3, fun i hi => (h4 i hi).of_cells (fun o => hc ⟨g, o, none⟩ ?_ h2)⟩
      have := (h.ne _ _ _ h1).1
      show Bl ≤ g
      omega
  · exact h.own.kept (fun k hk1 hk2 => hb k (by omega) hk2)

theorem Adds.dgr {p Bl : Nat} {w1 wr wr' : World} {v vw : Value} {ds : List Dec} {d : Dec} (h : Adds p Bl w1 wr v vw ds d) (hk : Dg p wr wr') (hp : p < Bl) : Adds p Bl w1 wr' v vw ds d :=
  h.keep (h.dg.trans hk) hk.size (fun k h1 h2 => hk.block k (by omega) h2)

theorem Adds.below {p Bl : Nat} {w1 wr wr' : World} {v vw : Value} {ds : List Dec} {d : Dec} (h : Adds p Bl w1 wr v vw ds d) (hb : Below wr.heap.size wr wr') (hp : p < Bl) : Adds p Bl w1 wr' v vw ds d :=
  h.dgr (Dg.of_below hb h.dg.dice) hp

/-- the last decision is stored -/
theorem Adds.stored {p Bl : Nat} {w1 wr : World} {v vw : Value} {ds : List Dec} {d : Dec} (h : Adds p Bl w1 wr v vw ds d) (hp : p < w1.heap.size) (hpB : p < Bl) (hB : w1.heap.size ≤ Bl) (d' : Dec) :
    Adds p Bl w1 (nest5 wr (Bl + 1) (.int .i64 d'.day) (.int .i64 d'.known) (.int .i64 d'.kind) (.int .i64 d'.subject) (.int .i64 d'.value)) v vw ds d' := by
  have hs := h.size
  have hn := nest5_size wr (Bl + 1) (.int .i64 d'.day) (.int .i64 d'.known) (.int .i64 d'.kind) (.int .i64 d'.subject) (.int .i64 d'.value)
  have hfar := nest5_far wr (Bl + 1) (.int .i64 d'.day) (.int .i64 d'.known) (.int .i64 d'.kind) (.int .i64 d'.subject) (.int .i64 d'.value)
  have hfro := nest5_frozen wr (Bl + 1) (.int .i64 d'.day) (.int .i64 d'.known) (.int .i64 d'.kind) (.int .i64 d'.subject) (.int .i64 d'.value)
  have hblk := nest5_block wr (Bl + 1) (.int .i64 d'.day) (.int .i64 d'.known) (.int .i64 d'.kind) (.int .i64 d'.subject) (.int .i64 d'.value)
  have hat := nest5_at wr (Bl + 1) _ d' h.last
  have hdg : Dg p w1 (nest5 wr (Bl + 1) (.int .i64 d'.day) (.int .i64 d'.known) (.int .i64 d'.kind) (.int .i64 d'.subject) (.int .i64 d'.value)) := by
    unfold nest5
    exact ((((h.dg.setCell (by show _ ≤ Bl + 1; omega) (by show Bl + 1 ≠ p; omega) hp _).setCell (by show _ ≤ Bl + 1; omega) (by show Bl + 1 ≠ p; omega) hp _).setCell (by show _ ≤ Bl + 1; omega) (by show Bl + 1 ≠ p; omega) hp _).setCell (by show _ ≤ Bl + 1; omega) (by show Bl + 1 ≠ p; omega) hp _).setCell (by show _ ≤ Bl + 1; omega) (by show Bl + 1 ≠ p; omega) hp _
  generalize nest5 wr (Bl + 1) (.int .i64 d'.day) (.int .i64 d'.known) (.int .i64 d'.kind) (.int .i64 d'.subject) (.int .i64 d'.value) = W4 at *
  refine ⟨hdg, (hfar _ (by show Bl ≠ _; omega)).trans h.cell, (hfro _).trans h.free, hat, fun o => (hfro _).trans (h.lfree o), ?_, ?_, h.ne, by omega⟩
  · rcases h.sd with ⟨h1, h2⟩ | ⟨g, cap, h1, h2, h3, h4⟩
    · exact .inl ⟨h1, h2⟩
    · have := (h.ne _ _ _ h1).1
      exact .inr ⟨g, cap, h1, by omega, h3, fun i hi => (h4 i hi).of_cells (fun o => hfar ⟨g, o, none⟩ (by show g ≠ _; omega))⟩
  · exact h.own.kept (fun k hk1 hk2 => hblk k (by omega))

/-- the new ledger and the new list are stored -/
theorem Adds.appended {p Bl : Nat} {w1 W5 W6 : World} {v v4 vw v' : Value} {ds : List Dec} {d : Dec} (h : Adds p Bl w1 W5 v vw ds d) (hp : p < w1.heap.size) (hpB : p < Bl) (hB : w1.heap.size ≤ Bl)
    (hv4 : OwnDecs W5 (Bl + 2) v4 (ds ++ [d])) (hne : ∀ g n m, v4 = .slice (some ⟨g, 0, none⟩) n m → vw.ownBlock ≠ some g)
    (hown : W6.ownsRow (Bl + 2) 27 5 v' (ds.length + 1) (flat ds ++ Dec.cells d)) (hg : W5.grownBy W6 vw.ownBlock) (hnew : v'.ownBlock = vw.ownBlock ∨ ∀ q, v'.ownBlock = some q → W5.heap.size ≤ q) :
    Adds p Bl w1 (W6.setCell ⟨Bl, 0, none⟩ v4) v4 v' (ds ++ [d]) d := by
  have hs := h.size
  have hrow : ∀ q, vw.ownBlock = some q → Bl + 2 ≤ q := by
    intro q hq
    rcases h.own.cases with ⟨rfl, _⟩ | ⟨g, cap, rfl, hge, _⟩
    · simp [Value.ownBlock] at hq
    · simp [Value.ownBlock] at hq; omega
  have hblk : ∀ q, q < W5.heap.size → vw.ownBlock ≠ some q → W6.heap[q]? = W5.heap[q]? := fun q hq hq2 => hg.block q hq (fun e => hq2 e.symm)
  have hlow : ∀ q, q < Bl + 2 → W6.heap[q]? = W5.heap[q]? := fun q hq => hblk q (by omega) (fun e => by have := hrow q e; omega)
  have hcell : ∀ y : Addr, y.block < Bl + 2 → W6.cell? y = W5.cell? y := fun y hy => World.cell?_of_block (w := W5) (hlow _ hy)
  have hfro : ∀ y : Addr, y.block < Bl + 2 → W6.frozen? y = W5.frozen? y := fun y hy => World.frozen?_of_block (w := W5) (hlow _ hy)
  have hd6 : Dg p w1 W6 := ⟨hg.os.trans h.dg.os, hg.tape.trans h.dg.tape, hg.output.trans h.dg.output, Nat.le_trans h.dg.size hg.size, fun q hq hqs => (hlow q (by omega)).trans (h.dg.block q hq hqs),
    h.dg.dice.below ⟨hg.os, hg.tape, hg.output, hg.size, fun q hq => hlow q (by omega)⟩⟩
  have hc1 := (hcell ⟨Bl, 0, none⟩ (by show Bl < _; omega)).trans h.cell
  have hlen : (ds ++ [d]).length = ds.length + 1 := by simp
  have hgs := hg.size
  refine ⟨hd6.setCell (by show _ ≤ Bl; omega) (by show Bl ≠ p; omega) hp _, World.cell?_setCell_same _ _ _ hc1, ?_, ?_, ?_, ?_, ?_, ?_, ?_⟩
  · rw [World.frozen?_setCell, hfro _ (by show Bl < _; omega)]; exact h.free
  · exact h.last.of_cells (fun i => by rw [World.cell?_setCell_far _ _ _ _ (by show Bl ≠ Bl + 1; omega), hcell _ (by show Bl + 1 < _; omega)])
  · intro o; rw [World.frozen?_setCell, hfro _ (by show Bl + 1 < _; omega)]; exact h.lfree o
  · rcases hv4.cases with ⟨h1, h2⟩ | ⟨g, cap, h1, h2, h3, h4, h5⟩
    · exact .inl ⟨h1, h2⟩
    · refine .inr ⟨g, cap, h1, by rw [World.size_setCell]; omega, h4, fun i hi => (h5 i hi).of_cells (fun o => ?_)⟩
      rw [World.cell?_setCell_far _ _ _ _ (by show Bl ≠ g; omega)]
      exact World.cell?_of_block (w := W5) (hblk g h3 (hne _ _ _ h1))
  · unfold OwnDecs
    rw [hlen, flat_snoc]
    exact ownsRow_setCell_below hown (by show Bl < _; omega) _
  · intro g n m e
    rcases hv4.cases with ⟨h1, h2⟩ | ⟨g', cap, h1, h2, h3, h4, h5⟩
    · rw [h1] at e; cases e
    · have hgg := hne _ _ _ e
      rw [h1] at e
      injection e with e1 e2 e3
      injection e1 with e1
      injection e1 with e1
      subst e1
      refine ⟨h2, fun hq => ?_⟩
      rcases hnew with h6 | h6
      · rw [h6] at hq; exact hgg hq
      · have := h6 _ hq; omega
  · rw [World.size_setCell]; omega
end Go.Proofs.Ytpjcaanlagibpaa

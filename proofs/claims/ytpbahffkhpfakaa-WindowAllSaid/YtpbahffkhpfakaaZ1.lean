import Derived.Test.YtpbahffkhpfakaaZ5
import Derived.Test.YtpbahffkhpfakaaROutZ
namespace Go.Proofs.Ytpbahffkhpfakaa
open Go.RowKit
set_option linter.unusedSimpArgs false
set_option linter.unusedVariables false

/-! ## A calendar that is changed in one thing: what is kept -/

/-- what stays whatever happens to the dice's block and behind -/
def Old (p : Nat) (w0 : World) (v : Value) (l : List Int) : Prop := ∀ W : World, w0.heap.size ≤ W.heap.size → (∀ k, k ≠ p → k < w0.heap.size → W.heap[k]? = w0.heap[k]?) → IntsAt W v l
def Row2 (p : Nat) (w0 W : World) (v : Value) (l : List Int) : Prop := Old p w0 v l ∨ (OwnInts W w0.heap.size v l ∧ l.length ≤ 1000)

structure OddP (p : Nat) (w0 W : World) (c : Cal) : Prop where
  dg : Dg p w0 W
  hp : p < w0.heap.size
  oB : W.heap[w0.heap.size]? = some (.cells #[c.wv, c.tv, c.rv] 25 (0, 0))
  oR : W.heap[w0.heap.size + 1]? = some zeroCal
  ow : OwnWins W w0.heap.size c.wv c.wins
  orr : OwnInts W w0.heap.size c.rv c.room
  tm : Row2 p w0 W c.tv c.team
  ts : ∀ x ∈ c.wins, Row2 p w0 W x.tv x.ts
  len : c.wins.length ≤ 900 ∧ c.room.length ≤ 900

theorem CalFar.later {p s : Nat} {w w' : World} {c : Cal} (h : CalFar s w c) (hs : p ≤ s) (hd : Dg p w w') : CalFar s w' c := fun W h1 h2 =>
  h W (Nat.le_trans hd.size h1) fun k g1 g2 => (h2 k g1 (Nat.lt_of_lt_of_le g2 hd.size)).trans (hd.block k (by omega) g2)
theorem CalFar.old {p s : Nat} {w : World} {c : Cal} (h : CalFar s w c) (hs : p ≤ s) : Old p w c.tv c.team ∧ Old p w c.rv c.room ∧ (∀ x ∈ c.wins, Old p w x.tv x.ts) ∧ ∀ W : World, w.heap.size ≤ W.heap.size → (∀ k, k ≠ p → k < w.heap.size → W.heap[k]? = w.heap[k]?) → WinsAt W c.wv c.wins := by
  have key : ∀ W : World, w.heap.size ≤ W.heap.size → (∀ k, k ≠ p → k < w.heap.size → W.heap[k]? = w.heap[k]?) → CalAt W c := fun W h1 h2 => h W h1 fun k g1 g2 => h2 k (by omega) g2
  exact ⟨fun W h1 h2 => (key W h1 h2).team, fun W h1 h2 => (key W h1 h2).room, fun x hx W h1 h2 => (key W h1 h2).wins.teams x hx, fun W h1 h2 => (key W h1 h2).wins⟩
theorem own_but {w w' : World} {s R : Nat} {e T : TypeId} {sz : Nat} {v : Value} {n : Nat} {xs : List Value} {cs : Array Value} {fz : Nat × Nat} (h : w.ownsRow s e sz v n xs) (hR : w.heap[R]? = some (.cells cs T fz)) (hne : e ≠ T) (hb : ∀ k, k ≠ R → k < w.heap.size → w'.heap[k]? = w.heap[k]?) : w'.ownsRow s e sz v n xs := by
  have hn := own_ne h hR hne
  obtain ⟨h1, h2⟩ := h
  refine ⟨h1, ?_⟩
  rcases h2 with h2 | ⟨g, cap, cur, e1, hbg, hg, h3⟩
  · exact .inl h2
  · have hlt : g < w.heap.size := (Array.getElem?_eq_some_iff.1 hg).1
    exact .inr ⟨g, cap, cur, e1, hbg, by rw [hb g (fun e2 => hn (by rw [e1, e2]; rfl)) hlt]; exact hg, h3⟩
theorem own_set {w : World} {s g : Nat} {e : TypeId} {sz : Nat} {v : Value} {n : Nat} {xs : List Value} (h : w.ownsRow s e sz v n xs) (hg : v.ownBlock = some g) (i : Nat) (hi : i < xs.length) (u : Value) : (w.setCell ⟨g, i, none⟩ u).ownsRow s e sz v n (xs.set i u) := by
  obtain ⟨h1, h2⟩ := h
  refine ⟨by rw [List.length_set]; exact h1, ?_⟩
  rcases h2 with ⟨e2, _⟩ | ⟨g', cap, cur, e1, hbg, hg', h3, h4, h5, h6⟩
  · rw [e2] at hg; cases hg
  · have e3 : g' = g := by rw [e1] at hg; simpa [Value.ownBlock] using hg
    subst e3
    refine .inr ⟨g', cap, cur.setIfInBounds i u, e1, hbg, heap_set hg' i u, h3, h4, by simpa using h5, ?_⟩
    rw [Array.toList_setIfInBounds, ← h6, List.take_set]
theorem Row2.soft {p : Nat} {w0 W W' : World} {v : Value} {l : List Int} (h : Row2 p w0 W v l) (hp : p < w0.heap.size) (hd : Dg p W W') : Row2 p w0 W' v l := by
  rcases h with h | ⟨h, hl⟩
  · exact .inl h
  · exact .inr ⟨own_dg hp h hd, hl⟩
theorem Row2.at {p : Nat} {w0 W W' : World} {v : Value} {l : List Int} {R : Nat} {cs : Array Value} {T : TypeId} {fz : Nat × Nat} (h : Row2 p w0 W v l) (hd : Dg p w0 W) (hR : W.heap[R]? = some (.cells cs T fz)) (hRs : w0.heap.size ≤ R) (hT : 3 ≠ T) (hs : W.heap.size ≤ W'.heap.size) (hb : ∀ k, k ≠ R → k < W.heap.size → W'.heap[k]? = W.heap[k]?) : IntsAt W' v l := by
  rcases h with h | ⟨h, hl⟩
  · exact h W' (Nat.le_trans hd.size hs) fun k h1 h2 => (hb k (by omega) (Nat.lt_of_lt_of_le h2 hd.size)).trans (hd.block k h1 h2)
  · exact OwnInts.at (own_but h hR hT hb) hl
theorem OddP.soft {p : Nat} {w0 W W' : World} {c : Cal} (h : OddP p w0 W c) (hd : Dg p W W') : OddP p w0 W' c := by
  have h1 := h.hp
  exact ⟨h.dg.trans hd, h1, (hd.block _ (by omega) (Array.getElem?_eq_some_iff.1 h.oB).1).trans h.oB, (hd.block _ (by omega) (Array.getElem?_eq_some_iff.1 h.oR).1).trans h.oR, own_dg h1 h.ow hd, own_dg h1 h.orr hd, h.tm.soft h1 hd, fun x hx => (h.ts x hx).soft h1 hd, h.len⟩
theorem OddP.fin {p : Nat} {w0 W W' : World} {c : Cal} (h : OddP p w0 W c) (hs : W.heap.size ≤ W'.heap.size) (hb : ∀ k, k ≠ w0.heap.size + 1 → k < W.heap.size → W'.heap[k]? = W.heap[k]?) : CalAt W' c := by
  have hR := h.oR
  unfold zeroCal at hR
  refine ⟨wins_at (own_but h.ow hR (by decide) hb) (by have := h.len; omega) fun x hx => (h.ts x hx).at h.dg hR (by omega) (by decide) hs hb, h.tm.at h.dg hR (by omega) (by decide) hs hb, OwnInts.at (own_but h.orr hR (by decide) hb) (by have := h.len; omega)⟩
/-- a store into a new block leaves the dice and what was there -/
theorem dg_set {p : Nat} {w0 W : World} (h : Dg p w0 W) (hp : p < w0.heap.size) (g : Nat) (hg : w0.heap.size ≤ g) (i : Nat) (u : Value) : Dg p w0 (W.setCell ⟨g, i, none⟩ u) :=
  ⟨h.os, h.tape, h.output, by simpa [World.setCell] using h.size, fun k h1 h2 => (heap_other (x := ⟨g, i, none⟩) (by show k ≠ g; omega)).trans (h.block k h1 h2), h.dice.blocks (by have := h.dice.1; simpa [World.setCell] using this) fun k hk => heap_other (x := ⟨g, i, none⟩) (by show k ≠ g; omega)⟩
theorem Row2.set {p : Nat} {w0 W : World} {v : Value} {l : List Int} (h : Row2 p w0 W v l) (g i : Nat) (u : Value) (hg : v.ownBlock ≠ some g) : Row2 p w0 (W.setCell ⟨g, i, none⟩ u) v l := by
  rcases h with h | ⟨h, hl⟩
  · exact .inl h
  · exact .inr ⟨ownsRow_setCell_other h hg u, hl⟩
theorem Row2.setT {p : Nat} {w0 W : World} {v : Value} {l : List Int} {g : Nat} {cs : Array Value} {T : TypeId} {fz : Nat × Nat} (h : Row2 p w0 W v l) (i : Nat) (u : Value) (hg : W.heap[g]? = some (.cells cs T fz)) (hT : 3 ≠ T) : Row2 p w0 (W.setCell ⟨g, i, none⟩ u) v l := by
  rcases h with h | ⟨h, hl⟩
  · exact .inl h
  · exact .inr ⟨ownsRow_setCell_other h (own_ne h hg hT) u, hl⟩
theorem IntsAt.nilOk {w : World} {v : Value} {l : List Int} (h : IntsAt w v l) (hl : l ≠ []) : NilOk v := fun n c e => by
  obtain ⟨_, a, cap, e2, h2⟩ := h
  rcases h2 with h2 | ⟨b, off, rfl, _⟩
  · exact absurd h2 hl
  · rw [e] at e2; cases e2
theorem flat_len (l : List Win) : (l.flatMap Win.cells).length = l.length * 3 := by
  induction l with
  | nil => rfl
  | cons x l ih =>
    rw [List.flatMap_cons, List.length_append, ih]
    simp [Win.cells]
    omega
theorem WinsAt.block {w : World} {v : Value} {l : List Win} (h : WinsAt w v l) (hl : l ≠ []) : ∃ b off cap, v = .slice (some ⟨b, off, none⟩) l.length cap ∧ b < w.heap.size ∧ ∀ k u, (l.flatMap Win.cells)[k]? = some u → w.cell? ⟨b, off + k, none⟩ = some u := by
  obtain ⟨a, cap, e, h2⟩ := h.rows
  rcases h2 with h2 | ⟨b, off, rfl, hb, hc⟩
  · exact absurd h2 hl
  · refine ⟨b, off, cap, e, hb, fun k u hu => ?_⟩
    have hk : k < l.length * 3 := by
      have := (List.getElem?_eq_some_iff.1 hu).1
      rw [flat_len] at this
      exact this
    have hj : k / 3 < l.length := by omega
    have hf := flat3 l (k / 3) hj
    have hcc := hc (k / 3) hj
    have hm : k % 3 = 0 ∨ k % 3 = 1 ∨ k % 3 = 2 := by omega
    rcases hm with hm | hm | hm
    · have ek : k = k / 3 * 3 := by omega
      rw [ek] at hu ⊢
      rw [hf.1] at hu
      cases hu
      exact hcc.1
    · have ek : k = k / 3 * 3 + 1 := by omega
      rw [ek] at hu ⊢
      rw [hf.2.1] at hu
      cases hu
      have := hcc.2.1
      rwa [Nat.add_assoc] at this
    · have ek : k = k / 3 * 3 + 2 := by omega
      rw [ek] at hu ⊢
      rw [hf.2.2] at hu
      cases hu
      have := hcc.2.2
      rwa [Nat.add_assoc] at this

/-- windows are appended to windows -/
theorem run_append_wins (w : World) (base : Nat) (ty : TypeId) (v xv : Value) (ws l2 : List Win) (hown : OwnWins w base v ws) (hx2 : WinsAt w xv l2) (hne : l2 ≠ []) (hlen : ws.length + l2.length ≤ 1000) (hbase : base ≤ w.heap.size) :
    ∃ v' w', (Builtin.append_ #[23, 23] ty #[v, xv]).run Try.prog w = .ok v' w' ∧ OwnWins w' base v' (ws ++ l2) ∧ w.grownBy w' v.ownBlock := by
  have hi := infoWin
  cases hq : Try.prog.info? 58 with
  | none => simp [hq] at hi
  | some i =>
    rw [hq] at hi
    simp only [Option.map_some, Option.some.injEq, Prod.mk.injEq] at hi
    obtain ⟨hz, hsz, hby⟩ := hi
    obtain ⟨b, off, cap, rfl, hb, hc⟩ := hx2.block hne
    obtain ⟨v', w', k1, k2, k3, _⟩ := run_append_own (P := Try.prog) w base 23 ty 58 i _ 3 40 undWins hq hz hsz hby rfl (by decide) v ws.length (ws.flatMap Win.cells) hown ⟨b, off, none⟩ l2.length cap (l2.flatMap Win.cells) (flat_len l2) (by
      intro j u hu
      have hp' : (⟨b, off, none⟩ : Addr).add j = ⟨b, off + j, none⟩ := by unfold Addr.add; split <;> simp_all
      rw [hp']
      exact hc j u hu) (by
      intro u hu
      rw [List.mem_flatMap] at hu
      obtain ⟨y, hy, hu⟩ := hu
      obtain ⟨a, m, e⟩ := (hx2.teams y hy).form
      simp only [Win.cells, List.mem_cons, List.not_mem_nil, or_false] at hu
      rcases hu with rfl | rfl | rfl
      · rfl
      · rfl
      · rw [e]; rfl) (by unfold maxLen; omega) (by omega) hbase
    refine ⟨v', w', k1, ?_, k3⟩
    unfold OwnWins
    rw [List.length_append, List.flatMap_append]
    exact k2
theorem wl_appW {ops : Array Oper} {rest : List Oper} {o : Oper} {a : Act} {w : World} {Q : Exit → Act → World → Prop} {vs vx : Value} (hgd : o.guard = none) (s x : Operand)
    (ho : o.op = .call { callee := .builtin .append, args := #[s, x], argTypes := #[23, 23] }) (hs : a.eval s = vs) (hx : a.eval x = vx) {C : Value → World → Prop}
    (hr : ∃ v' w', (Builtin.append_ #[23, 23] o.type #[vs, vx]).run Try.prog w = .ok v' w' ∧ C v' w') (k : ∀ v' w', C v' w' → wpList Try.prog ops Q rest (a.put o.dst v') w') : wpList Try.prog ops Q (o :: rest) a w := by
  obtain ⟨v', w', h1, h2⟩ := hr
  exact Lib.wpList_append_run w hgd s x _ _ ho vs vx hs hx v' w' h1 (k v' w' h2)
theorem ws_appW {ops : Array Oper} {o : Oper} {a : Act} {w : World} {K : Act → World → Prop} {Q : Exit → Act → World → Prop} {E : Prop} {vs vx : Value} (hg : o.guard = none) (s x : Operand)
    (ho : o.op = .call { callee := .builtin .append, args := #[s, x], argTypes := #[23, 23] }) (hs : a.eval s = vs) (hx : a.eval x = vx) {C : Value → World → Prop}
    (hr : ∃ v' w', (Builtin.append_ #[23, 23] o.type #[vs, vx]).run Try.prog w = .ok v' w' ∧ C v' w') (k : ∀ v' w', C v' w' → K (a.put o.dst v') w') :
    if Region.wanted o (yielded ops a.tmps) = true then Oper.wp Try.prog o a w K Q else E := by
  have hw : Region.wanted o (yielded ops a.tmps) = true := by simp [Region.wanted, hg]
  rw [if_pos hw]
  obtain ⟨v', w', h1, h2⟩ := hr
  unfold Oper.wp execOp
  simp only [ho, resolve, invoke, builtin, Sem.run_bind, Sem.run_pure, Result.andThen_ok, List.map_toArray, List.map_cons, List.map_nil, hs, hx, h1]
  exact k v' w' h2
/-- the calendar's variable gets a field -/
theorem OddP.field {p : Nat} {w0 W W' : World} {c c' : Cal} (h : OddP p w0 W c) (i : Nat) (u : Value) (hc : (#[c.wv, c.tv, c.rv] : Array Value).setIfInBounds i u = #[c'.wv, c'.tv, c'.rv])
    (hd : Dg p w0 W') (oB : W'.heap[w0.heap.size]? = some (.cells #[c.wv, c.tv, c.rv] 25 (0, 0))) (oR : W'.heap[w0.heap.size + 1]? = some zeroCal)
    (ow : OwnWins W' w0.heap.size c'.wv c'.wins) (orr : OwnInts W' w0.heap.size c'.rv c'.room) (tm : Row2 p w0 W' c'.tv c'.team) (ts : ∀ x ∈ c'.wins, Row2 p w0 W' x.tv x.ts) (hl : c'.wins.length ≤ 900 ∧ c'.room.length ≤ 900) : OddP p w0 (W'.setCell ⟨w0.heap.size, i, none⟩ u) c' := by
  refine ⟨dg_set hd h.hp _ (Nat.le_refl _) i u, h.hp, by rw [heap_set oB i u, hc], (heap_other (x := ⟨w0.heap.size, i, none⟩) (by show w0.heap.size + 1 ≠ w0.heap.size; omega)).trans oR, ownsRow_setCell_other ow (own_ne ow oB (by decide)) u, ownsRow_setCell_other orr (own_ne orr oB (by decide)) u, tm.setT i u oB (by decide), fun x hx => (ts x hx).setT i u oB (by decide), hl⟩
/-- a cell of the room -/
theorem OddP.roomSet {p : Nat} {w0 W : World} {c : Cal} (h : OddP p w0 W c) {g : Nat} (hg : c.rv.ownBlock = some g) (ht : Old p w0 c.tv c.team) (hts : ∀ x ∈ c.wins, Old p w0 x.tv x.ts) (i : Nat) (hi : i < c.room.length) (z : Int) : OddP p w0 (W.setCell ⟨g, i, none⟩ (.int .i64 z)) { c with room := c.room.set i z } := by
  obtain ⟨cur, hcur⟩ := own_type h.orr hg
  have hge : w0.heap.size ≤ g := (World.ownsRow.lt h.orr g hg).1
  have n1 : w0.heap.size ≠ g := fun e => by rw [← e, h.oB] at hcur; simp only [Option.some.injEq, Obj.cells.injEq] at hcur; exact absurd hcur.2.1 (by decide)
  have n2 : w0.heap.size + 1 ≠ g := fun e => by rw [← e, h.oR] at hcur; unfold zeroCal at hcur; simp only [Option.some.injEq, Obj.cells.injEq] at hcur; exact absurd hcur.2.1 (by decide)
  refine ⟨dg_set h.dg h.hp g hge i _, h.hp, (heap_other (x := ⟨g, i, none⟩) n1).trans h.oB, (heap_other (x := ⟨g, i, none⟩) n2).trans h.oR, ownsRow_setCell_other h.ow (own_ne h.ow hcur (by decide)) _, ?_, .inl ht, fun x hx => .inl (hts x hx), ⟨h.len.1, by simp only [List.length_set]; exact h.len.2⟩⟩
  have := own_set h.orr hg i (by simp [intVals]; exact hi) (.int .i64 z)
  unfold OwnInts
  rw [List.length_set, show intVals (c.room.set i z) = (intVals c.room).set i (.int .i64 z) from by simp [intVals, List.map_set]]
  exact this
/-- a cell of the windows -/
theorem OddP.winSet {p : Nat} {w0 W : World} {c : Cal} (h : OddP p w0 W c) {g : Nat} (hg : c.wv.ownBlock = some g) (i : Nat) (hi : i < c.wins.length * 3) (u : Value) (ws : List Win) (hws : ws.flatMap Win.cells = (c.wins.flatMap Win.cells).set i u) (hl : ws.length = c.wins.length) (hts : ∀ x ∈ ws, Row2 p w0 W x.tv x.ts) : OddP p w0 (W.setCell ⟨g, i, none⟩ u) { c with wins := ws } := by
  obtain ⟨cur, hcur⟩ := own_type h.ow hg
  have hge : w0.heap.size ≤ g := (World.ownsRow.lt h.ow g hg).1
  have n1 : w0.heap.size ≠ g := fun e => by rw [← e, h.oB] at hcur; simp only [Option.some.injEq, Obj.cells.injEq] at hcur; exact absurd hcur.2.1 (by decide)
  have n2 : w0.heap.size + 1 ≠ g := fun e => by rw [← e, h.oR] at hcur; unfold zeroCal at hcur; simp only [Option.some.injEq, Obj.cells.injEq] at hcur; exact absurd hcur.2.1 (by decide)
  refine ⟨dg_set h.dg h.hp g hge i _, h.hp, (heap_other (x := ⟨g, i, none⟩) n1).trans h.oB, (heap_other (x := ⟨g, i, none⟩) n2).trans h.oR, ?_, ownsRow_setCell_other h.orr (own_ne h.orr hcur (by decide)) _, h.tm.setT i u hcur (by decide), fun x hx => (hts x hx).setT i u hcur (by decide), ⟨by rw [hl]; exact h.len.1, h.len.2⟩⟩
  have := own_set h.ow hg i (by rw [flat_len]; exact hi) u
  unfold OwnWins
  rw [hl, hws]
  exact this
/-- the variable with copied windows; then with a copied room as well -/
theorem odd_first {p : Nat} {w W : World} {c : Cal} (ty : TypeId) (hd : Dg p w W) (hp : p < w.heap.size) (oB : W.heap[w.heap.size]? = some (.cells #[c.wv, c.tv, c.rv] 25 (0, 0))) (oR : W.heap[w.heap.size + 1]? = some zeroCal)
    (hw : WinsAt W c.wv c.wins) (hne : c.wins ≠ []) (hl : c.wins.length ≤ 900) :
    ∃ v1 w8, (Builtin.append_ #[23, 23] ty #[.slice none 0 0, c.wv]).run Try.prog W = .ok v1 w8 ∧ (Dg p w (w8.setCell ⟨w.heap.size, 0, none⟩ v1) ∧ (w8.setCell ⟨w.heap.size, 0, none⟩ v1).heap[w.heap.size]? = some (.cells #[v1, c.tv, c.rv] 25 (0, 0)) ∧ (w8.setCell ⟨w.heap.size, 0, none⟩ v1).heap[w.heap.size + 1]? = some zeroCal ∧
      OwnWins (w8.setCell ⟨w.heap.size, 0, none⟩ v1) w.heap.size v1 c.wins ∧ (∃ a n m, v1 = .slice a n m) ∧ w8.heap[w.heap.size]? = some (.cells #[c.wv, c.tv, c.rv] 25 (0, 0))) := by
  obtain ⟨v1, w8, k1, k2, k3⟩ := run_append_wins W w.heap.size ty (.slice none 0 0) c.wv [] c.wins (World.ownsRow_nil _ _ _ _) hw hne (by simp; omega) hd.size
  rw [List.nil_append] at k2
  have hg := Dg.grown hd.dice k3
  have b1 := (hg.block w.heap.size (by omega) (Array.getElem?_eq_some_iff.1 oB).1).trans oB
  have b2 := (hg.block (w.heap.size + 1) (by omega) (Array.getElem?_eq_some_iff.1 oR).1).trans oR
  refine ⟨v1, w8, k1, dg_set (hd.trans hg) hp _ (Nat.le_refl _) _ _, heap_set b1 0 v1, (heap_other (x := ⟨w.heap.size, 0, none⟩) (by show w.heap.size + 1 ≠ w.heap.size; omega)).trans b2, ownsRow_setCell_other k2 (own_ne k2 b1 (by decide)) _, own_form k2, b1⟩
theorem odd_second {p : Nat} {w W : World} {c : Cal} {v1 : Value} (ty : TypeId) (hd : Dg p w W) (hp : p < w.heap.size) (oB : W.heap[w.heap.size]? = some (.cells #[v1, c.tv, c.rv] 25 (0, 0))) (oR : W.heap[w.heap.size + 1]? = some zeroCal)
    (ow : OwnWins W w.heap.size v1 c.wins) (hr : IntsAt W c.rv c.room) (hne : c.room ≠ []) (tm : Old p w c.tv c.team) (ts : ∀ x ∈ c.wins, Old p w x.tv x.ts) (hl : c.wins.length ≤ 900 ∧ c.room.length ≤ 900) :
    ∃ v2 w9, (Builtin.append_ #[22, 22] ty #[.slice none 0 0, c.rv]).run Try.prog W = .ok v2 w9 ∧ (OddP p w (w9.setCell ⟨w.heap.size, 2, none⟩ v2) ⟨c.wins, c.team, c.room, v1, c.tv, v2⟩ ∧ (∃ a m, v2 = .slice a c.room.length m) ∧ w9.heap[w.heap.size]? = some (.cells #[v1, c.tv, c.rv] 25 (0, 0))) := by
  obtain ⟨v2, w9, k1, k2, k3, _⟩ := run_append_ints W w.heap.size ty (.slice none 0 0) c.rv [] c.room (World.ownsRow_nil _ _ _ _) hr (hr.nilOk hne) (by simp; omega) hd.size
  rw [List.nil_append] at k2
  have hg := Dg.grown hd.dice k3
  have b1 := (hg.block w.heap.size (by omega) (Array.getElem?_eq_some_iff.1 oB).1).trans oB
  have b2 := (hg.block (w.heap.size + 1) (by omega) (Array.getElem?_eq_some_iff.1 oR).1).trans oR
  have o3 := own_dg hp ow hg
  refine ⟨v2, w9, k1, ⟨dg_set (hd.trans hg) hp _ (Nat.le_refl _) _ _, hp, heap_set b1 2 v2, (heap_other (x := ⟨w.heap.size, 2, none⟩) (by show w.heap.size + 1 ≠ w.heap.size; omega)).trans b2, ownsRow_setCell_other o3 (own_ne o3 b1 (by decide)) _, ownsRow_setCell_other k2 (own_ne k2 b1 (by decide)) _, .inl tm, fun x hx => .inl (ts x hx), hl⟩, OwnInts.form k2, b1⟩
theorem OddP.forms {p : Nat} {w0 W : World} {c : Cal} (h : OddP p w0 W c) : ∃ wa wn wm ta tn tm ra rn rm, c.wv = .slice wa wn wm ∧ c.tv = .slice ta tn tm ∧ c.rv = .slice ra rn rm := by
  obtain ⟨wa, wn, wm, e1⟩ := own_form h.ow
  obtain ⟨ra, rm, e3⟩ := OwnInts.form h.orr
  rcases h.tm with h2 | ⟨h2, _⟩
  · obtain ⟨ta, tm, e2⟩ := (h2 W h.dg.size fun k g1 g2 => h.dg.block k g1 g2).form
    exact ⟨wa, wn, wm, ta, _, tm, ra, _, rm, e1, e2, e3⟩
  · obtain ⟨ta, tm, e2⟩ := OwnInts.form h2
    exact ⟨wa, wn, wm, ta, _, tm, ra, _, rm, e1, e2, e3⟩
theorem OddP.done {p : Nat} {w0 W : World} {c : Cal} (h : OddP p w0 W c) :
    Dg p w0 (((W.setCell ⟨w0.heap.size + 1, 0, none⟩ c.wv).setCell ⟨w0.heap.size + 1, 1, none⟩ c.tv).setCell ⟨w0.heap.size + 1, 2, none⟩ c.rv) ∧ (((W.setCell ⟨w0.heap.size + 1, 0, none⟩ c.wv).setCell ⟨w0.heap.size + 1, 1, none⟩ c.tv).setCell ⟨w0.heap.size + 1, 2, none⟩ c.rv).heap[w0.heap.size + 1]? = some (.cells #[c.wv, c.tv, c.rv] 25 (0, 0)) ∧ CalAt (((W.setCell ⟨w0.heap.size + 1, 0, none⟩ c.wv).setCell ⟨w0.heap.size + 1, 1, none⟩ c.tv).setCell ⟨w0.heap.size + 1, 2, none⟩ c.rv) c := by
  have hR := h.oR
  have h1 := heap_set hR 0 c.wv
  have h2 := heap_set h1 1 c.tv
  have h3 := heap_set h2 2 c.rv
  refine ⟨dg_set (dg_set (dg_set h.dg h.hp _ (by omega) _ _) h.hp _ (by omega) _ _) h.hp _ (by omega) _ _, h3, h.fin (by simp [World.setCell]) fun k hk _ => ?_⟩
  rw [heap_other (by exact hk), heap_other (by exact hk), heap_other (by exact hk)]
end Go.Proofs.Ytpbahffkhpfakaa

namespace Go.Proofs.Ytpbahffkhpfakaa
open Go.RowKit
set_option linter.unusedSimpArgs false
set_option linter.unusedVariables false

/-! ## What the slots of a drawn region say -/

def TeamL (w : World) (s : Nat) (u : Value) : Prop := ∃ l : List Int, l.length ≤ 1000 ∧ OwnInts w s u l
theorem TeamL.keep {p s : Nat} {w w' : World} {u : Value} (h : TeamL w s u) (he : E11 p s w w') : TeamL w' s u := by
  obtain ⟨l, h1, h2⟩ := h
  exact ⟨l, h1, own_e11 h2 he⟩
inductive Kd where
  | eqv (u : Value)
  | own (l : List Int)
  | int1
  | num (n : Nat)
  | pair
  | rows (k : Nat)
  | rowp
  | team
  | nothing
def Kd.holds (s : Nat) : Kd → Value → World → Prop
  | .eqv u, v, _ => v = u
  | .own l, v, w => OwnInts w s v l
  | .int1, v, _ => ∃ x : Int, v = .int .i64 x
  | .num n, v, _ => ∃ r : Nat, r < n ∧ v = .int .i64 r
  | .pair, v, _ => ∃ a b : Int, v = .agg #[.int .i64 a, .int .i64 b]
  | .rows k, v, w => ∃ (b : Nat) (cur : Array Value), v = .slice (some ⟨b, 0, none⟩) k k ∧ s ≤ b ∧ w.heap[b]? = some (.cells cur 22 (0, 0)) ∧ cur.size = k ∧ ∀ (i : Nat) (u : Value), cur[i]? = some u → TeamL w s u
  | .rowp, v, w => ∃ (b : Nat) (cur : Array Value) (i : Nat) (u : Value), v = .pointer (some ⟨b, i, none⟩) ∧ s ≤ b ∧ w.heap[b]? = some (.cells cur 22 (0, 0)) ∧ cur[i]? = some u ∧ TeamL w s u
  | .team, v, w => TeamL w s v
  | .nothing, _, _ => True
theorem Kd.keep {p s : Nat} {k : Kd} {v : Value} {w w' : World} (h : k.holds s v w) (he : E11 p s w w') : k.holds s v w' := by
  cases k with
  | own l => exact own_e11 h he
  | rows k =>
    obtain ⟨b, cur, a1, a2, a3, a4, a5⟩ := h
    exact ⟨b, cur, a1, a2, (he.rows b cur a2 a3).trans a3, a4, fun i u hu => (a5 i u hu).keep he⟩
  | rowp =>
    obtain ⟨b, cur, i, u, a1, a2, a3, a4, a5⟩ := h
    exact ⟨b, cur, i, u, a1, a2, (he.rows b cur a2 a3).trans a3, a4, a5.keep he⟩
  | team => exact TeamL.keep h he
  | eqv u => exact h
  | int1 => exact h
  | num n => exact h
  | pair => exact h
  | nothing => trivial

theorem own_some {w : World} {s : Nat} {e : TypeId} {sz : Nat} {v : Value} {n : Nat} {xs : List Value} (h : w.ownsRow s e sz v n xs) (hn : 0 < n) : ∃ g cap, v = .slice (some ⟨g, 0, none⟩) n cap := by
  rcases h.2 with ⟨_, h0⟩ | ⟨g, cap, cur, e1, _⟩
  · omega
  · exact ⟨g, cap, e1⟩
/-- the calendar under change, till the last store and behind it -/
structure TO (p : Nat) (w0 : World) (c : Cal) (lst : Nat) (l : Nat → Bool) (W : World) : Prop where
  pre : l lst = false → OddP p w0 W c
  post : l lst = true → ∃ c' : Cal, OddP p w0 W c' ∧ c'.wv = c.wv ∧ c'.tv = c.tv ∧ c'.rv = c.rv
section
variable {p : Nat} {w0 : World} {c : Cal} {lst : Nat} {l : Nat → Bool} {W W' : World}
theorem TO.soft {i : Nat} (h : TO p w0 c lst l W) (hd : Dg p W W') (hi : i ≠ lst) : TO p w0 c lst (upd l i) W' := by
  have e : upd l i lst = l lst := if_neg (Ne.symm hi)
  refine ⟨fun h1 => (h.pre (by rw [← e]; exact h1)).soft hd, fun h1 => ?_⟩
  obtain ⟨c', h2, h3⟩ := h.post (by rw [← e]; exact h1)
  exact ⟨c', h2.soft hd, h3⟩
theorem TO.oB (h : TO p w0 c lst l W) : W.heap[w0.heap.size]? = some (.cells #[c.wv, c.tv, c.rv] 25 (0, 0)) := by
  cases e : l lst with
  | false => exact (h.pre e).oB
  | true =>
    obtain ⟨c', h2, e1, e2, e3⟩ := h.post e
    rw [← e1, ← e2, ← e3]
    exact h2.oB
theorem TO.hs (h : TO p w0 c lst l W) : w0.heap.size ≤ W.heap.size := Nat.le_of_lt (Array.getElem?_eq_some_iff.1 h.oB).1
end
theorem OddP.e11set {p g : Nat} {w0 W : World} {c : Cal} (h : OddP p w0 W c) (hd : DiceAt W p) (hg : c.wv.ownBlock = some g) (i : Nat) (u : Value) : E11 p w0.heap.size W (W.setCell ⟨g, i, none⟩ u) := by
  obtain ⟨cur, hcur⟩ := own_type h.ow hg
  have hge : w0.heap.size ≤ g := (World.ownsRow.lt h.ow g hg).1
  have hp := h.hp
  refine ⟨rfl, rfl, rfl, by simp, fun k h1 h2 => heap_other (x := ⟨g, i, none⟩) (by show k ≠ g; omega), fun k cs h1 h2 => heap_other (x := ⟨g, i, none⟩) (fun e => ?_), fun k cs h1 h2 => heap_other (x := ⟨g, i, none⟩) (fun e => ?_), hd.blocks (by have := hd.1; simpa [World.setCell] using this) fun k hk => heap_other (x := ⟨g, i, none⟩) (by show k ≠ g; omega)⟩
  · have e' : k = g := e
    subst e'
    rw [hcur] at h2
    simp only [Option.some.injEq, Obj.cells.injEq] at h2
    exact absurd h2.2.1 (by decide)
  · have e' : k = g := e
    subst e'
    rw [hcur] at h2
    simp only [Option.some.injEq, Obj.cells.injEq] at h2
    exact absurd h2.2.1 (by decide)
theorem OddP.winCells {p g : Nat} {w0 W : World} {c : Cal} (h : OddP p w0 W c) (hg : c.wv.ownBlock = some g) (hn : 0 < c.wins.length) : ∃ x rest, c.wins = x :: rest ∧ W.cell? ⟨g, 0, none⟩ = some (.int .i64 x.frm) ∧ W.cell? ⟨g, 1, none⟩ = some (.int .i64 x.til) ∧ W.cell? ⟨g, 2, none⟩ = some x.tv ∧ W.frozen? ⟨g, 0, none⟩ = false ∧ W.frozen? ⟨g, 1, none⟩ = false ∧ W.frozen? ⟨g, 2, none⟩ = false := by
  obtain ⟨cur, hcur⟩ := own_type h.ow hg
  obtain ⟨x, rest, e⟩ := List.exists_cons_of_ne_nil (l := c.wins) (fun e => by rw [e] at hn; simp at hn)
  have hc : ∀ k u, (c.wins.flatMap Win.cells)[k]? = some u → W.cell? ⟨g, k, none⟩ = some u := fun k u hu => by
    have hv := h.ow
    rcases hv.2 with ⟨e2, _⟩ | ⟨g', cap, cur', e2, _⟩
    · rw [e2] at hg; cases hg
    · have e3 : g' = g := by rw [e2] at hg; simpa [Value.ownBlock] using hg
      subst e3
      have := World.ownsRow.cells hv (g := g') (by rw [e2]; rfl) k u hu
      have hp' : (⟨g', 0, none⟩ : Addr).add k = ⟨g', 0 + k, none⟩ := by unfold Addr.add; split <;> simp_all
      rw [hp', Nat.zero_add] at this
      exact this
  rw [e] at hc
  exact ⟨x, rest, e, hc 0 _ rfl, hc 1 _ rfl, hc 2 _ rfl, heap_free hcur 0, heap_free hcur 1, heap_free hcur 2⟩
/-- the first window's days -/
theorem OddP.daysSet {p g : Nat} {w0 W : World} {c : Cal} (h : OddP p w0 W c) (hg : c.wv.ownBlock = some g) (hn : 0 < c.wins.length) (a b : Int) : ∃ c', OddP p w0 ((W.setCell ⟨g, 0, none⟩ (.int .i64 a)).setCell ⟨g, 1, none⟩ (.int .i64 b)) c' ∧ c'.wv = c.wv ∧ c'.tv = c.tv ∧ c'.rv = c.rv := by
  obtain ⟨x, rest, e, _⟩ := h.winCells hg hn
  have h1 := h.winSet hg 0 (by omega) (.int .i64 a) (⟨a, x.til, x.tv, x.ts⟩ :: rest) (by rw [e]; rfl) (by rw [e]; rfl) (fun y hy => by
    rcases List.mem_cons.1 hy with rfl | hy
    · exact h.ts x (by rw [e]; exact List.mem_cons_self)
    · exact h.ts y (by rw [e]; exact List.mem_cons_of_mem _ hy))
  have h2 := h1.winSet (g := g) hg 1 (by simp; omega) (.int .i64 b) (⟨a, b, x.tv, x.ts⟩ :: rest) rfl rfl (fun y hy => by
    rcases List.mem_cons.1 hy with rfl | hy
    · exact h1.ts ⟨a, x.til, x.tv, x.ts⟩ List.mem_cons_self
    · exact h1.ts y (List.mem_cons_of_mem _ hy))
  exact ⟨_, h2, rfl, rfl, rfl⟩
/-- the first window's teams -/
theorem OddP.teamsSet {p g : Nat} {w0 W : World} {c : Cal} (h : OddP p w0 W c) (hg : c.wv.ownBlock = some g) (hn : 0 < c.wins.length) (u : Value) (hu : TeamL W w0.heap.size u) : ∃ c', OddP p w0 (W.setCell ⟨g, 2, none⟩ u) c' ∧ c'.wv = c.wv ∧ c'.tv = c.tv ∧ c'.rv = c.rv := by
  obtain ⟨x, rest, e, _⟩ := h.winCells hg hn
  obtain ⟨l, hl, ho⟩ := hu
  have h1 := h.winSet hg 2 (by omega) u (⟨x.frm, x.til, u, l⟩ :: rest) (by rw [e]; rfl) (by rw [e]; rfl) (fun y hy => by
    rcases List.mem_cons.1 hy with rfl | hy
    · exact .inr ⟨ho, hl⟩
    · exact h.ts y (by rw [e]; exact List.mem_cons_of_mem _ hy))
  exact ⟨_, h1, rfl, rfl, rfl⟩
theorem OddP.roomCell {p g : Nat} {w0 W : World} {c : Cal} (h : OddP p w0 W c) (hg : c.rv.ownBlock = some g) (hn : 0 < c.room.length) : (∃ z : Int, W.cell? ⟨g, 0, none⟩ = some (.int .i64 z)) ∧ W.frozen? ⟨g, 0, none⟩ = false := by
  obtain ⟨cur, hcur⟩ := own_type h.orr hg
  refine ⟨⟨c.room[0], ?_⟩, heap_free hcur 0⟩
  have hv := h.orr
  rcases hv.2 with ⟨e2, _⟩ | ⟨g', cap, cur', e2, _⟩
  · rw [e2] at hg; cases hg
  · have e3 : g' = g := by rw [e2] at hg; simpa [Value.ownBlock] using hg
    subst e3
    have := World.ownsRow.cells hv (g := g') (by rw [e2]; rfl) 0 (.int .i64 c.room[0]) (by simp [intVals, hn])
    exact this
theorem Row2.kept {p : Nat} {w0 W W' : World} {v u : Value} {l : List Int} (h : Old p w0 v l) : Row2 p w0 W v l := .inl h
/-- a team is copied -/
theorem OddP.teamCopy {p : Nat} {w0 W : World} {c : Cal} (ty : TypeId) (h : OddP p w0 W c) (ht : Old p w0 c.tv c.team) (hl : c.team.length ≤ 900) (hne : c.team ≠ []) :
    ∃ v' w', (Builtin.append_ #[22, 22] ty #[.slice none 0 0, c.tv]).run Try.prog W = .ok v' w' ∧ (OwnInts w' W.heap.size v' c.team ∧ Dg p W w' ∧ ∃ a m, v' = .slice a c.team.length m) := by
  have hi := ht W h.dg.size fun k g1 g2 => h.dg.block k g1 g2
  obtain ⟨v', w', h1, h2, h3, h4⟩ := run_append_ints W W.heap.size ty (.slice none 0 0) c.tv [] c.team (World.ownsRow_nil _ _ _ _) hi (hi.nilOk hne) (by simp; omega) (Nat.le_refl _)
  rw [List.nil_append] at h2
  exact ⟨v', w', h1, h2, Dg.grown h.dg.dice h3, OwnInts.form h2⟩
/-- .. and one more is appended to the copy -/
theorem OddP.teamAdd {p : Nat} {w0 W3 W : World} {c : Cal} {v : Value} (ty : TypeId) (h : OddP p w0 W3 c) (hd : Dg p W3 W) (ho : OwnInts W W3.heap.size v c.team) (hts : ∀ x ∈ c.wins, Old p w0 x.tv x.ts) (hl : c.team.length ≤ 900) (x : Int) :
    ∃ v' w', (Builtin.append_ #[22, 22] ty #[v, .slice (some ⟨W.heap.size, 0, none⟩) 1 1]).run Try.prog (W.alloc (.cells #[.int .i64 x] 3)) = .ok v' w' ∧
      ((∃ c', OddP p w0 (w'.setCell ⟨w0.heap.size, 1, none⟩ v') c') ∧ (∃ a n m, v' = .slice a n m) ∧ w'.heap[w0.heap.size]? = some (.cells #[c.wv, c.tv, c.rv] 25 (0, 0))) := by
  have h0 := h.hp
  have h2 := h.soft hd
  have hs3 : w0.heap.size ≤ W3.heap.size := h.dg.size
  have hda : Dg p W (W.alloc (.cells #[.int .i64 x] 3)) := (Dg.refl h2.dg.dice).alloc _
  have h3 := h2.soft hda
  have hx := ints_new W [x] 3 (by simp)
  have ho2 := own_dg (show p < W3.heap.size by omega) ho hda
  obtain ⟨v', w', k1, k2, k3, k4⟩ := run_append_ints (W.alloc (.cells #[.int .i64 x] 3)) W3.heap.size ty v (.slice (some ⟨W.heap.size, 0, none⟩) 1 1) c.team [x] ho2 hx (fun n c e => by cases e) (by simp; omega) (Nat.le_trans hd.size hda.size)
  have hlo : ∀ k, v.ownBlock = some k → W3.heap.size ≤ k := fun k hk => (World.ownsRow.lt ho2 k hk).1
  have hkeep : ∀ k, k < W3.heap.size → w'.heap[k]? = (W.alloc (.cells #[.int .i64 x] 3)).heap[k]? := fun k hk => k3.block k (Nat.lt_of_lt_of_le hk (Nat.le_trans hd.size hda.size)) fun e => by have := hlo k e.symm; omega
  have hdg : Dg p w0 w' := ⟨k3.os.trans h3.dg.os, k3.tape.trans h3.dg.tape, k3.output.trans h3.dg.output, Nat.le_trans h3.dg.size k3.size, fun k g1 g2 => (hkeep k (by omega)).trans (h3.dg.block k g1 g2), h3.dg.dice.blocks (Nat.lt_of_lt_of_le h3.dg.dice.1 k3.size) fun k hk => hkeep k (by omega)⟩
  have hB : w0.heap.size < W3.heap.size := (Array.getElem?_eq_some_iff.1 h.oB).1
  have hR : w0.heap.size + 1 < W3.heap.size := (Array.getElem?_eq_some_iff.1 h.oR).1
  have b1 := (hkeep _ hB).trans h3.oB
  have kept : ∀ {e : TypeId} {sz n : Nat} {u : Value} {xs : List Value}, W3.ownsRow w0.heap.size e sz u n xs → w'.ownsRow w0.heap.size e sz u n xs := fun {e sz n u xs} hu => by
    obtain ⟨q1, q2⟩ := hu
    refine ⟨q1, ?_⟩
    rcases q2 with q2 | ⟨g, cap, cur, e1, hb, hg, q3⟩
    · exact .inl q2
    · have hlt : g < W3.heap.size := (Array.getElem?_eq_some_iff.1 hg).1
      exact .inr ⟨g, cap, cur, e1, hb, by rw [hkeep g hlt, hda.block g (by omega) (Nat.lt_of_lt_of_le hlt hd.size), hd.block g (by omega) hlt]; exact hg, q3⟩
  have k2' : OwnInts w' w0.heap.size v' (c.team ++ [x]) := by
    obtain ⟨q1, q2⟩ := k2
    refine ⟨q1, ?_⟩
    rcases q2 with q2 | ⟨g, cap, cur, e1, hb, hg, q3⟩
    · exact .inl q2
    · exact .inr ⟨g, cap, cur, e1, by omega, hg, q3⟩
  refine ⟨v', w', k1, ⟨⟨c.wins, c.team ++ [x], c.room, c.wv, v', c.rv⟩, ?_⟩, own_form k2, b1⟩
  exact h3.field (c' := ⟨c.wins, c.team ++ [x], c.room, c.wv, v', c.rv⟩) 1 v' rfl hdg b1 ((hkeep _ hR).trans h3.oR) (kept h.ow) (kept h.orr) (.inr ⟨k2', by simp; omega⟩) (fun y hy => .inl (hts y hy)) h.len
/-- a room of its own -/
theorem OddP.roomNew {p : Nat} {w0 W : World} {c : Cal} (h : OddP p w0 W c) (hts : ∀ x ∈ c.wins, Old p w0 x.tv x.ts) (ht : Old p w0 c.tv c.team) (n : Nat) (hn : n ≤ 900) :
    OddP p w0 ((W.alloc (.cells (nums n fun _ => 0).toArray 3)).setCell ⟨w0.heap.size, 2, none⟩ (.slice (some ⟨W.heap.size, 0, none⟩) n n)) ⟨c.wins, c.team, List.replicate n 0, c.wv, c.tv, .slice (some ⟨W.heap.size, 0, none⟩) n n⟩ := by
  have hda : Dg p W (W.alloc (.cells (nums n fun _ => 0).toArray 3)) := (Dg.refl h.dg.dice).alloc _
  have h3 := h.soft hda
  have e : (nums n fun _ => 0) = intVals (List.replicate n 0) := by
    apply List.ext_getElem
    · simp [nums, intVals]
    · intro i h1 h2
      simp [nums, intVals]
  have ho : OwnInts (W.alloc (.cells (nums n fun _ => 0).toArray 3)) w0.heap.size (.slice (some ⟨W.heap.size, 0, none⟩) n n) (List.replicate n 0) := by
    have := World.ownsRow_lit (base := w0.heap.size) (e := 3) (size := 1) W (nums n fun _ => 0).toArray n h.dg.size (by unfold maxLen; omega) (by simp [nums])
    unfold OwnInts
    rw [List.length_replicate, ← e]
    simpa using this
  exact h3.field (c' := ⟨c.wins, c.team, List.replicate n 0, c.wv, c.tv, .slice (some ⟨W.heap.size, 0, none⟩) n n⟩) 2 _ rfl h3.dg h3.oB h3.oR h3.ow ho (.inl ht) (fun y hy => .inl (hts y hy)) ⟨h.len.1, by simp; omega⟩
end Go.Proofs.Ytpbahffkhpfakaa

namespace Go.Proofs.Ytpbahffkhpfakaa
open Go.RowKit
set_option linter.unusedSimpArgs false
set_option linter.unusedVariables false

/-! ## One window more of the calendar under change -/

/-- appended, and not yet stored -/
structure OddM (p : Nat) (w0 W : World) (c : Cal) (x : Win) (v : Value) : Prop where
  dg : Dg p w0 W
  oB : W.heap[w0.heap.size]? = some (.cells #[c.wv, c.tv, c.rv] 25 (0, 0))
  oR : W.heap[w0.heap.size + 1]? = some zeroCal
  ow : OwnWins W w0.heap.size v (c.wins ++ [x])
  orr : OwnInts W w0.heap.size c.rv c.room
theorem OddM.soft {p : Nat} {w0 W W' : World} {c : Cal} {x : Win} {v : Value} (h : OddM p w0 W c x v) (hp : p < w0.heap.size) (hd : Dg p W W') : OddM p w0 W' c x v :=
  ⟨h.dg.trans hd, (hd.block _ (by omega) (Array.getElem?_eq_some_iff.1 h.oB).1).trans h.oB, (hd.block _ (by omega) (Array.getElem?_eq_some_iff.1 h.oR).1).trans h.oR, own_dg hp h.ow hd, own_dg hp h.orr hd⟩
theorem OddP.winAdd {p g1 : Nat} {w0 W : World} {c : Cal} {x : Win} {xv : Value} (ty : TypeId) (h : OddP p w0 W c) (hg : c.wv.ownBlock = some g1) (hx : WinsAt W xv [x]) :
    ∃ v' w', (Builtin.append_ #[23, 23] ty #[c.wv, xv]).run Try.prog W = .ok v' w' ∧ OddM p w0 w' c x v' ∧ E5 p w0.heap.size (some g1) W w' := by
  have hp := h.hp
  obtain ⟨v', w', k1, k2, k3⟩ := run_append_wins W w0.heap.size ty c.wv xv c.wins [x] h.ow hx (by simp) (by have := h.len; simp; omega) h.dg.size
  rw [hg] at k3
  have hge : w0.heap.size ≤ g1 := (World.ownsRow.lt h.ow g1 hg).1
  have hd : DiceAt w' p := h.dg.dice.blocks (Nat.lt_of_lt_of_le h.dg.dice.1 k3.size) fun k hk => k3.block k (by have := h.dg.size; omega) (by intro e; cases e; omega)
  obtain ⟨cur, hcur⟩ := own_type h.ow hg
  have key : ∀ {k : Nat} {cs : Array Value} {T : TypeId}, W.heap[k]? = some (.cells cs T (0, 0)) → T ≠ 58 → w'.heap[k]? = W.heap[k]? := fun {k cs T} hk hT => k3.block k (Array.getElem?_eq_some_iff.1 hk).1 (by
    intro e
    cases e
    rw [hcur] at hk
    simp only [Option.some.injEq, Obj.cells.injEq] at hk
    exact hT hk.2.1.symm)
  have hR := h.oR
  unfold zeroCal at hR
  refine ⟨v', w', k1, ⟨⟨k3.os.trans h.dg.os, k3.tape.trans h.dg.tape, k3.output.trans h.dg.output, Nat.le_trans h.dg.size k3.size, fun k q1 q2 => (k3.block k (Nat.lt_of_lt_of_le q2 h.dg.size) (by intro e; cases e; omega)).trans (h.dg.block k q1 q2), hd⟩, (key h.oB (by decide)).trans h.oB, (key hR (by decide)).trans h.oR, k2, ?_⟩, ⟨k3.os, k3.tape, k3.output, k3.size, fun k q1 _ _ q4 => k3.block k q1 q4, hd⟩⟩
  refine World.ownsRow.kept h.orr k3 ?_
  by_cases e : c.rv.ownBlock = none
  · exact .inl e
  · right
    intro e2
    obtain ⟨cur2, h2⟩ := own_type h.orr (k := g1) (by simpa using e2)
    rw [hcur] at h2
    simp only [Option.some.injEq, Obj.cells.injEq] at h2
    exact absurd h2.2.1 (by decide)
theorem OddM.store {p : Nat} {w0 W : World} {c : Cal} {x : Win} {v : Value} (h : OddM p w0 W c x v) (hp : p < w0.heap.size) (ht : Old p w0 c.tv c.team) (hts : ∀ y ∈ c.wins, Old p w0 y.tv y.ts) (hx : x ∈ c.wins) (hl : c.wins.length ≤ 800 ∧ c.room.length ≤ 800) : OddP p w0 (W.setCell ⟨w0.heap.size, 0, none⟩ v) ⟨c.wins ++ [x], c.team, c.room, v, c.tv, c.rv⟩ := by
  refine ⟨dg_set h.dg hp _ (Nat.le_refl _) 0 v, hp, heap_set h.oB 0 v, (heap_other (x := ⟨w0.heap.size, 0, none⟩) (by show w0.heap.size + 1 ≠ w0.heap.size; omega)).trans h.oR, ownsRow_setCell_other h.ow (own_ne h.ow h.oB (by decide)) v, ownsRow_setCell_other h.orr (own_ne h.orr h.oB (by decide)) v, .inl ht, fun y hy => .inl ?_, ⟨by simp; omega, by show c.room.length ≤ 900; omega⟩⟩
  rcases List.mem_append.1 hy with hy | hy
  · exact hts y hy
  · rw [List.mem_singleton] at hy
    subst hy
    exact hts y hx
structure T13 (p : Nat) (w0 : World) (c : Cal) (x : Win) (l : Nat → Bool) (f : Nat → Value) (W : World) : Prop where
  o1 : l 7 = true → l 1 = true
  o6 : l 7 = true → l 6 = true
  o5 : l 6 = true → l 5 = true
  o4 : l 5 = true → l 4 = true
  o3 : l 4 = true → l 3 = true
  o9 : l 9 = true → l 7 = true
  pre : l 7 = false → OddP p w0 W c
  mid : l 7 = true → l 9 = false → OddM p w0 W c x (f 71)
  post : l 9 = true → ∃ c', OddP p w0 W c'
section
variable {p : Nat} {w0 W W' : World} {c : Cal} {x : Win} {l l' : Nat → Bool} {f f' : Nat → Value}
theorem T13.soft (h : T13 p w0 c x l f W) (hp : p < w0.heap.size) (hd : Dg p W W') (e7 : l' 7 = l 7) (e9 : l' 9 = l 9) (ef : f' 71 = f 71) (o1 : l' 7 = true → l' 1 = true) (o6 : l' 7 = true → l' 6 = true) (o5 : l' 6 = true → l' 5 = true) (o4 : l' 5 = true → l' 4 = true) (o3 : l' 4 = true → l' 3 = true) (o9 : l' 9 = true → l' 7 = true) : T13 p w0 c x l' f' W' :=
  ⟨o1, o6, o5, o4, o3, o9, fun e => (h.pre (by rw [← e7]; exact e)).soft hd, fun e k => by rw [ef]; exact (h.mid (by rw [← e7]; exact e) (by rw [← e9]; exact k)).soft hp hd, fun e => by
    obtain ⟨c', h'⟩ := h.post (by rw [← e9]; exact e)
    exact ⟨c', h'.soft hd⟩⟩
theorem T13.n1 (h : T13 p w0 c x l f W) (e : l 1 = false) : l 7 = false := by cases q : l 7 with | false => rfl | true => rw [h.o1 q] at e; cases e
theorem T13.n6 (h : T13 p w0 c x l f W) (e : l 6 = false) : l 7 = false := by cases q : l 7 with | false => rfl | true => rw [h.o6 q] at e; cases e
theorem T13.n5 (h : T13 p w0 c x l f W) (e : l 5 = false) : l 7 = false := h.n6 (by cases q : l 6 with | false => rfl | true => rw [h.o5 q] at e; cases e)
theorem T13.n3 (h : T13 p w0 c x l f W) (e : l 3 = false) : l 7 = false := h.n5 (by
  cases q : l 5 with
  | false => rfl
  | true => rw [h.o3 (h.o4 q)] at e; cases e)
theorem T13.hs (h : T13 p w0 c x l f W) : w0.heap.size ≤ W.heap.size := by
  cases e : l 7 with
  | false => exact (h.pre e).dg.size
  | true =>
    cases k : l 9 with
    | false => exact (h.mid e k).dg.size
    | true => obtain ⟨c', h'⟩ := h.post k; exact h'.dg.size
end
def Lit13 (p s g1 : Nat) (x : Win) (v : Value) (w : World) : Prop := ∃ b, v = .slice (some ⟨b, 0, none⟩) 1 1 ∧ b < w.heap.size ∧ b ≠ p ∧ b ≠ s ∧ some b ≠ some g1 ∧ w.cell? ⟨b, 0, none⟩ = some (.int .i64 x.frm) ∧ w.cell? ⟨b, 1, none⟩ = some (.int .i64 x.til) ∧ w.cell? ⟨b, 2, none⟩ = some x.tv
theorem Lit13.keep {p s g1 : Nat} {x : Win} {v : Value} {w w' : World} (h : Lit13 p s g1 x v w) (he : E5 p s (some g1) w w') : Lit13 p s g1 x v w' := by
  obtain ⟨b, a1, a2, a3, a4, a5, a6, a7, a8⟩ := h
  have hb := he.block b a2 a3 a4 a5
  exact ⟨b, a1, Nat.lt_of_lt_of_le a2 he.size, a3, a4, a5, (World.cell?_of_block (a := ⟨b, 0, none⟩) hb).trans a6, (World.cell?_of_block (a := ⟨b, 1, none⟩) hb).trans a7, (World.cell?_of_block (a := ⟨b, 2, none⟩) hb).trans a8⟩
theorem Lit13.wins {p s g1 : Nat} {x : Win} {v : Value} {w : World} (h : Lit13 p s g1 x v w) (ht : IntsAt w x.tv x.ts) : WinsAt w v [x] := by
  obtain ⟨b, a1, a2, a3, a4, a5, a6, a7, a8⟩ := h
  refine ⟨by simp, ⟨_, _, a1, .inr ⟨b, 0, rfl, a2, fun j hj => ?_⟩⟩, fun y hy => ?_⟩
  · have : j = 0 := by simp at hj; omega
    subst this
    exact ⟨a6, a7, a8⟩
  · rw [List.mem_singleton] at hy
    subst hy
    exact ht
def F13 (p s g1 : Nat) (x : Win) (eq : Nat → Option Value) (d : Nat) (v : Value) (w : World) : Prop := (∀ u, eq d = some u → v = u) ∧ (d = 70 → Lit13 p s g1 x v w)
theorem F13.keep {p s g1 : Nat} {x : Win} {eq : Nat → Option Value} {d : Nat} {v : Value} {w w' : World} (h : F13 p s g1 x eq d v w) (he : E5 p s (some g1) w w') : F13 p s g1 x eq d v w' := ⟨h.1, fun e => (h.2 e).keep he⟩
theorem F13.of {p s g1 : Nat} {x : Win} {eq : Nat → Option Value} {d : Nat} {u : Value} {w : World} (h : eq d = some u) (hd : d ≠ 70) : F13 p s g1 x eq d u w := ⟨fun u' e => by rw [h] at e; cases e; rfl, fun e => absurd e hd⟩
theorem step_val' {P : Program} {ops : Array Oper} {Q : Exit → Act → World → Prop} {a0 : Act} {w0 : World} {ds : List Nat} {E : World → World → Prop} {F : Nat → Value → World → Prop} {T : (Nat → Bool) → (Nat → Value) → World → Prop} {i : Nat} {o : Oper} (d : Nat) (hd : o.dst = some d)
    (h : ∀ l f w, E w0.drew w → T l f w → l i = false → (∀ e ∈ o.after, Region.binds .any e = true → l e.on = true) → (∀ j d, dstAt ops j = some d → l j = true → F d (f d) w) →
      ∃ v w', (execOp (fr a0 ds f).eval o).run P w = .ok (.value v) w' ∧ E w w' ∧ T (upd l i) (updv f (some d) v) w' ∧ F d v w') : StepOk P ops Q a0 w0 ds E F T i o := step_val d hd h
end Go.Proofs.Ytpbahffkhpfakaa


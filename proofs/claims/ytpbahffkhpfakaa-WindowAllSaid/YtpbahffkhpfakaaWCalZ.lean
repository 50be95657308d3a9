import Derived.Test.YtpbahffkhpfakaaZ6
import Derived.Laws.Rows
namespace Go.Proofs.Ytpbahffkhpfakaa
open Go.RowKit
set_option linter.unusedSimpArgs false
set_option linter.unusedVariables false

/-! ## A drawn calendar -/

theorem lit_dk {p : Nat} {w : World} (hp : p < w.heap.size) (l : List Int) (hl : l.length ≤ 1000) : ∀ W, Dk p (w.alloc (.cells (intVals l).toArray 3)) W → IntsAt W (.slice (some ⟨w.heap.size, 0, none⟩) l.length l.length) l := fun W h => by
  obtain ⟨h1, a, cap, e, hc⟩ := ints_new w l 3 hl
  refine ⟨h1, a, cap, e, ?_⟩
  rcases hc with hc | ⟨b, off, rfl, hb, hc⟩
  · exact .inl hc
  · have e2 : b = w.heap.size := by simp only [Value.slice.injEq, Option.some.injEq, Addr.mk.injEq] at e; exact e.1.1.symm
    subst e2
    exact .inr ⟨_, off, rfl, by rw [h.size]; exact hb, fun j hj => (h.cell (x := ⟨w.heap.size, off + j, none⟩) (show w.heap.size ≠ p by omega)).trans (hc j hj)⟩


/-- a calendar under way: its variable is block B -/
structure CalV (p s B : Nat) (w0 W : World) (wv tv rv : Value) (ws : List Win) (tm rm : List Int) : Prop where
  dg : Dg p w0 W
  ps : p < s
  sB : s < B
  s0 : s = w0.heap.size
  oB : W.heap[B]? = some (.cells #[wv, tv, rv] 25 (0, 0))
  oR : W.heap[s]? = some zeroCal
  ow : OwnWins W s wv ws
  ot : OwnInts W s tv tm
  orr : OwnInts W s rv rm
  ne : Apart tv rv
  teams : ∀ x ∈ ws, OwnInts W s x.tv x.ts
theorem CalV.hB {p s B : Nat} {w0 W : World} {wv tv rv : Value} {ws : List Win} {tm rm : List Int} (h : CalV p s B w0 W wv tv rv ws tm rm) : B < W.heap.size := (Array.getElem?_eq_some_iff.1 h.oB).1
theorem CalV.soft {p s B : Nat} {w0 W W' : World} {wv tv rv : Value} {ws : List Win} {tm rm : List Int} (h : CalV p s B w0 W wv tv rv ws tm rm) (hd : Dg p W W') : CalV p s B w0 W' wv tv rv ws tm rm := by
  have h1 := h.ps
  have h2 := h.sB
  have h3 := h.hB
  exact ⟨h.dg.trans hd, h1, h2, h.s0, (hd.block B (by omega) h3).trans h.oB, (hd.block s (by omega) (by omega)).trans h.oR, own_dg h1 h.ow hd, own_dg h1 h.ot hd, own_dg h1 h.orr hd, h.ne, fun x hx => own_dg h1 (h.teams x hx) hd⟩

/-- what drawn windows are: they follow one another, and end by a day -/
structure WinsOk (fm : Nat) (ws : List Win) : Prop where
  days : ∀ x ∈ ws, 0 ≤ x.frm ∧ x.frm < x.til ∧ x.til ≤ (fm : Int)
  teams : ∀ x ∈ ws, x.ts = [0, 1] ∨ x.ts = [0] ∨ x.ts = [1] ∨ x.ts = []
  apart : apartB ws = true
theorem WinsOk.nil (fm : Nat) : WinsOk fm [] := ⟨fun x h => by simp at h, fun x h => by simp at h, rfl⟩
theorem WinsOk.snoc {fm t2 : Nat} {ws : List Win} {x : Win} (h : WinsOk fm ws) (h1 : x.frm = (fm : Int)) (h2 : (fm : Int) < x.til) (h3 : x.til ≤ (t2 : Int)) (h4 : x.ts = [0, 1] ∨ x.ts = [0] ∨ x.ts = [1] ∨ x.ts = []) : WinsOk t2 (ws ++ [x]) := by
  refine ⟨fun y hy => ?_, fun y hy => ?_, ?_⟩
  · rcases List.mem_append.1 hy with hy | hy
    · have := h.days y hy
      omega
    · rw [List.mem_singleton] at hy
      subst hy
      omega
  · rcases List.mem_append.1 hy with hy | hy
    · exact h.teams y hy
    · rw [List.mem_singleton] at hy
      subst hy
      exact h4
  · unfold apartB
    rw [pairB_iff]
    intro j hj
    by_cases e : j + 1 < ws.length
    · have := (pairB_iff _ ws).1 h.apart j e
      rw [List.getElem_append_left (by omega), List.getElem_append_left e]
      exact this
    · have hl : j + 1 = ws.length := by simp at hj; omega
      rw [List.getElem_append_left (by omega), List.getElem_append_right (by omega)]
      have := h.days ws[j] (List.getElem_mem _)
      simp [hl, h1]
      omega

/-! ### one number more of the teams of endpoints -/

structure E5 (p B : Nat) (q : Option Nat) (w w' : World) : Prop where
  os : w'.os = w.os
  tape : w'.tape = w.tape
  output : w'.output = w.output
  size : w.heap.size ≤ w'.heap.size
  block : ∀ k, k < w.heap.size → k ≠ p → k ≠ B → some k ≠ q → w'.heap[k]? = w.heap[k]?
  dice : DiceAt w' p
theorem E5.trans {p B : Nat} {q : Option Nat} {a b c : World} (h : E5 p B q a b) (k : E5 p B q b c) : E5 p B q a c :=
  ⟨k.os.trans h.os, k.tape.trans h.tape, k.output.trans h.output, Nat.le_trans h.size k.size, fun i h1 h2 h3 h4 => (k.block i (Nat.lt_of_lt_of_le h1 h.size) h2 h3 h4).trans (h.block i h1 h2 h3 h4), k.dice⟩
theorem E5.refl {p B : Nat} {q : Option Nat} {w : World} (h : DiceAt w p) : E5 p B q w w := ⟨rfl, rfl, rfl, Nat.le_refl _, fun _ _ _ _ _ => rfl, h⟩
theorem Dg.e5 {p B : Nat} {q : Option Nat} {a b : World} (h : Dg p a b) : E5 p B q a b := ⟨h.os, h.tape, h.output, h.size, fun k h1 h2 _ _ => h.block k h2 h1, h.dice⟩

/-- a literal of one number that is nobody's -/
def Lit1 (s B : Nat) (q : Option Nat) (w : World) (v : Value) (r : Nat) : Prop := ∃ b, v = .slice (some ⟨b, 0, none⟩) 1 1 ∧ s ≤ b ∧ b < w.heap.size ∧ b ≠ B ∧ some b ≠ q ∧ w.cell? ⟨b, 0, none⟩ = some (.int .i64 r)
def F5 (p s B : Nat) (tv : Value) (q : Option Nat) (d : Nat) (v : Value) (w : World) : Prop :=
  (d = 23 → v = .pointer (some ⟨B, 1, none⟩)) ∧ (d = 24 → v = tv) ∧ (d = 25 → v = .pointer (some ⟨p, 0, none⟩)) ∧ (d = 26 → ∃ r : Nat, r < 2 ∧ v = .int .i64 r) ∧ (d = 27 → p < s ∧ ∃ r : Nat, r < 2 ∧ Lit1 s B q w v r) ∧ (d = 29 → v = .pointer (some ⟨B, 1, none⟩))
theorem F5.keep {p s B : Nat} {tv : Value} {q : Option Nat} {d : Nat} {v : Value} {w w' : World} (h : F5 p s B tv q d v w) (he : E5 p B q w w') : F5 p s B tv q d v w' := by
  obtain ⟨h1, h2, h3, h4, h5, h6⟩ := h
  refine ⟨h1, h2, h3, h4, fun e => ?_, h6⟩
  obtain ⟨hps, r, hr, b, hv, hb, hbs, hne, hq, hc⟩ := h5 e
  exact ⟨hps, r, hr, b, hv, hb, Nat.lt_of_lt_of_le hbs he.size, hne, hq, (World.cell?_of_block (a := ⟨b, 0, none⟩) (he.block b hbs (by omega) hne hq)).trans hc⟩

section
variable {p s B : Nat} {tv rv : Value} {q : Option Nat} {w : World} {tm rm : List Int}
theorem F5.at23 : F5 p s B tv q 23 (.pointer (some ⟨B, 1, none⟩)) w := ⟨fun _ => rfl, fun e => absurd e (by decide), fun e => absurd e (by decide), fun e => absurd e (by decide), fun e => absurd e (by decide), fun e => absurd e (by decide)⟩
theorem F5.at24 : F5 p s B tv q 24 tv w := ⟨fun e => absurd e (by decide), fun _ => rfl, fun e => absurd e (by decide), fun e => absurd e (by decide), fun e => absurd e (by decide), fun e => absurd e (by decide)⟩
theorem F5.at25 : F5 p s B tv q 25 (.pointer (some ⟨p, 0, none⟩)) w := ⟨fun e => absurd e (by decide), fun e => absurd e (by decide), fun _ => rfl, fun e => absurd e (by decide), fun e => absurd e (by decide), fun e => absurd e (by decide)⟩
theorem F5.at26 (r : Nat) (h : r < 2) : F5 p s B tv q 26 (.int .i64 r) w := ⟨fun e => absurd e (by decide), fun e => absurd e (by decide), fun e => absurd e (by decide), fun _ => ⟨r, h, rfl⟩, fun e => absurd e (by decide), fun e => absurd e (by decide)⟩
theorem F5.at27 {v : Value} (hps : p < s) (r : Nat) (h : r < 2) (hl : Lit1 s B q w v r) : F5 p s B tv q 27 v w := ⟨fun e => absurd e (by decide), fun e => absurd e (by decide), fun e => absurd e (by decide), fun e => absurd e (by decide), fun _ => ⟨hps, r, h, hl⟩, fun e => absurd e (by decide)⟩
theorem F5.at28 {v : Value} : F5 p s B tv q 28 v w := ⟨fun e => absurd e (by decide), fun e => absurd e (by decide), fun e => absurd e (by decide), fun e => absurd e (by decide), fun e => absurd e (by decide), fun e => absurd e (by decide)⟩
theorem F5.at29 : F5 p s B tv q 29 (.pointer (some ⟨B, 1, none⟩)) w := ⟨fun e => absurd e (by decide), fun e => absurd e (by decide), fun e => absurd e (by decide), fun e => absurd e (by decide), fun e => absurd e (by decide), fun _ => rfl⟩
end
structure T5 (s B : Nat) (tv rv : Value) (tm rm : List Int) (l : Nat → Bool) (f : Nat → Value) (w : World) : Prop where
  orr : OwnInts w s rv rm
  oR : w.heap[s]? = some zeroCal
  o15 : l 5 = true → l 1 = true
  o57 : l 7 = true → l 5 = true
  old : l 5 = false → OwnInts w s tv tm
  new : l 5 = true → ∃ r : Nat, r < 2 ∧ OwnInts w s (f 28) (tm ++ [(r : Int)]) ∧ Apart (f 28) rv
  b0 : l 7 = false → w.heap[B]? = some (.cells #[.slice none 0 0, tv, rv] 25 (0, 0))
  b1 : l 7 = true → w.heap[B]? = some (.cells #[.slice none 0 0, f 28, rv] 25 (0, 0))
theorem T5.soft {p s B : Nat} {tv rv : Value} {tm rm : List Int} {l l' : Nat → Bool} {f f' : Nat → Value} {w w' : World} (h : T5 s B tv rv tm rm l f w) (hps : p < s) (hsB : s < B) (hd : Dg p w w') (e5 : l' 5 = l 5) (e7 : l' 7 = l 7) (e28 : f' 28 = f 28) (e1 : l 1 = true → l' 1 = true) : T5 s B tv rv tm rm l' f' w' := by
  have hB : ∀ {o : Obj}, w.heap[B]? = some o → w'.heap[B]? = some o := fun ho => (hd.block B (by omega) (Array.getElem?_eq_some_iff.1 ho).1).trans ho
  refine ⟨own_dg hps h.orr hd, (hd.block s (by omega) (Array.getElem?_eq_some_iff.1 h.oR).1).trans h.oR, fun e => e1 (h.o15 (by rw [← e5]; exact e)), fun e => by rw [e5]; exact h.o57 (by rw [← e7]; exact e), fun e => own_dg hps (h.old (by rw [← e5]; exact e)) hd, fun e => ?_, fun e => hB (h.b0 (by rw [← e7]; exact e)), fun e => ?_⟩
  · rw [e28]
    obtain ⟨r, h1, h2, h3⟩ := h.new (by rw [← e5]; exact e)
    exact ⟨r, h1, own_dg hps h2 hd, h3⟩
  · rw [e28]
    exact hB (h.b1 (by rw [← e7]; exact e))
theorem T5.hB {s B : Nat} {tv rv : Value} {tm rm : List Int} {l : Nat → Bool} {f : Nat → Value} {w : World} (h : T5 s B tv rv tm rm l f w) : B < w.heap.size := by
  cases h7 : l 7 with
  | false => exact (Array.getElem?_eq_some_iff.1 (h.b0 h7)).1
  | true => exact (Array.getElem?_eq_some_iff.1 (h.b1 h7)).1
theorem infoCal : (Try.prog.info? 25).map (·.size) = some 3 := by kernel_rfl
theorem wins_at {w : World} {s : Nat} {v : Value} {ws : List Win} (h : OwnWins w s v ws) (hl : ws.length ≤ 1000) (ht : ∀ x ∈ ws, IntsAt w x.tv x.ts) : WinsAt w v ws := by
  refine ⟨by omega, ?_, ht⟩
  rcases h.2 with ⟨e, h0⟩ | ⟨g, cap, cur, e, hb, hg, h3⟩
  · exact ⟨none, 0, by rw [e, h0], .inl (List.eq_nil_of_length_eq_zero h0)⟩
  · refine ⟨some ⟨g, 0, none⟩, cap, e, .inr ⟨g, 0, rfl, (Array.getElem?_eq_some_iff.1 hg).1, fun j hj => ?_⟩⟩
    have hc : ∀ k u, (ws.flatMap Win.cells)[k]? = some u → w.cell? ⟨g, 0 + k, none⟩ = some u := fun k u hu => by
      have := World.ownsRow.cells h (g := g) (by rw [e]; rfl) k u hu
      have hp' : (⟨g, 0, none⟩ : Addr).add k = ⟨g, 0 + k, none⟩ := by unfold Addr.add; split <;> simp_all
      rwa [hp'] at this
    have hf := flat3 ws j hj
    exact ⟨hc _ _ hf.1, by have := hc _ _ hf.2.1; rwa [← Nat.add_assoc] at this, by have := hc _ _ hf.2.2; rwa [← Nat.add_assoc] at this⟩

/-- what a drawn calendar is -/
structure Drawn (c : Cal) (n : Nat) : Prop where
  team : c.team.length = n
  t01 : ∀ t ∈ c.team, t = 0 ∨ t = 1
  room : ∃ x y, c.room = [x, y] ∧ (x = 24 ∨ x = 2 ∨ x = 1) ∧ (y = 24 ∨ y = 3)
  wins : ∃ fm, fm ≤ 178 ∧ WinsOk fm c.wins
  few : 2 ≤ c.wins.length ∧ c.wins.length ≤ 5
/-- a calendar that nothing drawn touches -/
def CalKept (p : Nat) (w : World) (c : Cal) : Prop := ∀ W, Dg p w W → CalAt W c

/-- .. and that hangs on the blocks behind s alone -/
def CalFar (s : Nat) (w : World) (c : Cal) : Prop := ∀ W : World, w.heap.size ≤ W.heap.size → (∀ k, s < k → k < w.heap.size → W.heap[k]? = w.heap[k]?) → CalAt W c
theorem own_far {w w' : World} {s : Nat} {e T : TypeId} {sz : Nat} {v : Value} {n : Nat} {xs : List Value} {cs : Array Value} {fz : Nat × Nat} (h : w.ownsRow s e sz v n xs) (hs : w.heap[s]? = some (.cells cs T fz)) (hne : e ≠ T) (hb : ∀ k, s < k → k < w.heap.size → w'.heap[k]? = w.heap[k]?) : w'.ownsRow s e sz v n xs := by
  have hn := own_ne h hs hne
  obtain ⟨h1, h2⟩ := h
  refine ⟨h1, ?_⟩
  rcases h2 with h2 | ⟨g, cap, cur, e1, hbg, hg, h3⟩
  · exact .inl h2
  · have hlt : g < w.heap.size := (Array.getElem?_eq_some_iff.1 hg).1
    have hgs : g ≠ s := fun e2 => hn (by rw [e1, e2]; rfl)
    exact .inr ⟨g, cap, cur, e1, hbg, by rw [hb g (by omega) hlt]; exact hg, h3⟩
theorem four_len {l : List Int} (h : FourB l) : l.length ≤ 1000 := by
  rcases h with rfl | rfl | rfl | rfl <;> decide

theorem CalV.fin {p s B : Nat} {w0 W : World} {wv tv rv : Value} {ws : List Win} {tm rm : List Int} (h : CalV p s B w0 W wv tv rv ws tm rm) (hw : ws.length ≤ 1000) (ht : tm.length ≤ 1000) (hr : rm.length ≤ 1000) (h4 : ∀ x ∈ ws, FourB x.ts) :
    Dg p w0 (((W.setCell ⟨s, 0, none⟩ wv).setCell ⟨s, 1, none⟩ tv).setCell ⟨s, 2, none⟩ rv) ∧ (((W.setCell ⟨s, 0, none⟩ wv).setCell ⟨s, 1, none⟩ tv).setCell ⟨s, 2, none⟩ rv).heap[s]? = some (.cells #[wv, tv, rv] 25 (0, 0)) ∧
    CalKept p (((W.setCell ⟨s, 0, none⟩ wv).setCell ⟨s, 1, none⟩ tv).setCell ⟨s, 2, none⟩ rv) ⟨ws, tm, rm, wv, tv, rv⟩ ∧
    CalFar s (((W.setCell ⟨s, 0, none⟩ wv).setCell ⟨s, 1, none⟩ tv).setCell ⟨s, 2, none⟩ rv) ⟨ws, tm, rm, wv, tv, rv⟩ := by
  have hps := h.ps
  have hb : Below s W (((W.setCell ⟨s, 0, none⟩ wv).setCell ⟨s, 1, none⟩ tv).setCell ⟨s, 2, none⟩ rv) := (((Below.refl _ _).setCell (p := ⟨s, 0, none⟩) (Nat.le_refl _) _).setCell (p := ⟨s, 1, none⟩) (Nat.le_refl _) _).setCell (p := ⟨s, 2, none⟩) (Nat.le_refl _) _
  have h1 := heap_set h.oR 0 wv
  have h2 := heap_set h1 1 tv
  have h3 := heap_set h2 2 rv
  have key : ∀ {e : TypeId} {sz n : Nat} {v : Value} {xs : List Value}, e ≠ 25 → W.ownsRow s e sz v n xs → (((W.setCell ⟨s, 0, none⟩ wv).setCell ⟨s, 1, none⟩ tv).setCell ⟨s, 2, none⟩ rv).ownsRow s e sz v n xs := fun hne ho =>
    ownsRow_setCell_other (ownsRow_setCell_other (ownsRow_setCell_other ho (own_ne ho h.oR hne) _) (own_ne ho h.oR hne) _) (own_ne ho h.oR hne) _
  refine ⟨⟨hb.os.trans h.dg.os, hb.tape.trans h.dg.tape, hb.output.trans h.dg.output, Nat.le_trans h.dg.size hb.size, fun k h1 h2 => (hb.block k (by rw [h.s0]; exact h2)).trans (h.dg.block k h1 h2), h.dg.dice.below (hb.mono (by omega))⟩, h3, fun V hV => ?_, fun V _ hV => ?_⟩
  · exact ⟨wins_at (own_dg hps (key (by decide) h.ow) hV) hw (fun x hx => OwnInts.at (own_dg hps (key (by decide) (h.teams x hx)) hV) (four_len (h4 x hx))), OwnInts.at (own_dg hps (key (by decide) h.ot) hV) ht, OwnInts.at (own_dg hps (key (by decide) h.orr) hV) hr⟩
  · exact ⟨wins_at (own_far (key (by decide) h.ow) h3 (by decide) hV) hw (fun x hx => OwnInts.at (own_far (key (by decide) (h.teams x hx)) h3 (by decide) hV) (four_len (h4 x hx))), OwnInts.at (own_far (key (by decide) h.ot) h3 (by decide) hV) ht, OwnInts.at (own_far (key (by decide) h.orr) h3 (by decide) hV) hr⟩

set_option maxRecDepth 100000 in
set_option maxHeartbeats 4000000 in
theorem cal_any (p n : Nat) (w : World) (h : DiceAt w p) (hn : n ≤ 100) :
    Calls Try.prog 11 #[.pointer (some ⟨p, 0, none⟩), .int .i64 n] w fun e w' => ∃ c, e = .returned c.val ∧ Drawn c n ∧ Dg p w w' ∧ CalKept p w' c ∧ CalFar w.heap.size w' c := by
  have hp := h.1
  have D0 := Lib.hid (Dg.refl h)
  have hR := heap_new w zeroCal
  have hs1 : (w.alloc zeroCal).heap.size = w.heap.size + 1 := by simp
  have D1 := Lib.hid (D0.out.alloc zeroCal)
  unfold zeroCal at hR D1 hs1
  have HR := Lib.hid hR
  clear hR
  go_enter Try.func11, Try.ntmps11
  go_wp2_with fail
  generalize w.alloc (.cells #[.slice none 0 0, .slice none 0 0, .slice none 0 0] 25) = W1 at *
  have hp1 : p < W1.heap.size := by omega
  have hl1 := lit_dk hp1 [24, 2, 1] (by decide)
  rw [hs1] at hl1
  refine (of_any p _ [24, 2, 1] _ ((D1.out.alloc _).dice) (by decide) (by decide) hl1).mono ?_
  rintro e w1 ⟨⟨x, hx, rfl⟩, hk⟩
  have D2 := Lib.hid ((D1.out.alloc (.cells #[.int .i64 24, .int .i64 2, .int .i64 1] 3)).trans hk.dg)
  have R2 := Lib.hid (((D1.out.trans (Dg.refl D1.out.dice)).dice))
  have HX := Lib.hid hx
  have S2 := Lib.hid (show w1.heap.size = w.heap.size + 1 + 1 by rw [hk.size]; simp [hs1])
  have HR2 := Lib.hid (show w1.heap[w.heap.size]? = _ from (((Dg.refl D1.out.dice).alloc (.cells #[.int .i64 24, .int .i64 2, .int .i64 1] 3)).trans hk.dg).block w.heap.size (by omega) (by omega) |>.trans HR.out)
  clear hl1 hk hx R2 hp1 hs1 HR D1
  go_wp2_with fail
  have hl1 := lit_dk (w := w1) (p := p) (by have := S2.out; omega) [24, 3] (by decide)
  refine (of_any p _ [24, 3] _ ((D2.out.alloc _).dice) (by decide) (by decide) hl1).mono ?_
  rintro e w2 ⟨⟨y, hy, rfl⟩, hk⟩
  have D3 := Lib.hid ((D2.out.alloc (.cells #[.int .i64 24, .int .i64 3] 3)).trans hk.dg)
  have HY := Lib.hid hy
  have S3 := Lib.hid (show w2.heap.size = w.heap.size + 1 + 1 + 1 by rw [hk.size]; simp [S2.out])
  have HR3 := Lib.hid (show w2.heap[w.heap.size]? = _ from (((Dg.refl D2.out.dice).alloc (.cells #[.int .i64 24, .int .i64 3] 3)).trans hk.dg).block w.heap.size (by omega) (by have := S2.out; omega) |>.trans HR2.out)
  clear hl1 hk hy HR2 S2 D2
  have V0 := Lib.hid (show CalV p w.heap.size (w2.heap.size + 1) w ((w2.alloc (.cells #[.int .i64 x, .int .i64 y] 3)).alloc (.cells #[.slice none 0 0, .slice none 0 0, .slice (some ⟨w2.heap.size, 0, none⟩) 2 2] 25)) (.slice none 0 0) (.slice none 0 0) (.slice (some ⟨w2.heap.size, 0, none⟩) 2 2) [] [] [x, y] from by
    have b1 : Dg p w2 (w2.alloc (.cells #[.int .i64 x, .int .i64 y] 3)) := (Dg.refl D3.out.dice).alloc _
    have b2 := b1.alloc (.cells #[.slice none 0 0, .slice none 0 0, .slice (some ⟨w2.heap.size, 0, none⟩) 2 2] 25)
    have hs2 := S3.out
    have ho : OwnInts (w2.alloc (.cells #[.int .i64 x, .int .i64 y] 3)) w.heap.size (.slice (some ⟨w2.heap.size, 0, none⟩) 2 2) [x, y] := World.ownsRow_lit w2 #[.int .i64 x, .int .i64 y] 2 (by omega) (by unfold maxLen; omega) rfl
    have e : w2.heap.size + 1 = (w2.alloc (.cells #[.int .i64 x, .int .i64 y] 3)).heap.size := by simp
    refine ⟨D3.out.trans b2, hp, by omega, rfl, by rw [e]; exact heap_new _ _, (b2.block w.heap.size (by omega) (by omega)).trans HR3.out, World.ownsRow_nil _ _ _ _, World.ownsRow_nil _ _ _ _, own_dg hp ho ((Dg.refl b1.dice).alloc _), Apart.nil _, fun z hz => by simp at hz⟩)
  clear HR3 S3 D3
  go_wp2_with fail
  generalize w2.heap.size + 1 = B at *
  generalize (Value.slice (some ⟨w2.heap.size, 0, none⟩) 2 2) = rv at *
  generalize (w2.alloc (.cells #[.int .i64 x, .int .i64 y] 3)).alloc (.cells #[.slice none 0 0, .slice none 0 0, rv] 25) = W2 at *
  go_loopg [6] n (fun gg s6 wr => ∃ (kk : Nat) (tv : Value) (tm : List Int), kk ≤ n ∧ n - kk ≤ gg ∧ s6 = .int .i64 kk ∧ tm.length = kk ∧ Aside (∀ t ∈ tm, t = 0 ∨ t = 1) ∧ Aside (CalV p w.heap.size B w wr (.slice none 0 0) tv rv [] tm [x, y]))
  case atStart => exact ⟨0, _, [], Nat.zero_le _, by omega, rfl, rfl, fun t ht => by simp at ht, V0.out⟩
  case round =>
    obtain ⟨kk, tv, tm, hkk, hg, rfl, hlen, HT, V⟩ := hrel
    by_cases hlt : kk < n
    · have hltz : (kk : Int) < (n : Int) := by omega
      go_upto_region 5 with fail
      refine wp_named fun a0 ha0 => ?_
      have z0 : a0.tmps.size = 68 := by rw [ha0]; rfl
      have hlt := lt_of_all (ds := [23, 24, 25, 26, 27, 28, 29]) (n := a0.tmps.size) (by rw [z0]; rfl)
      have e0 : (a0.tmps[0]?).getD undef = .pointer (some ⟨p, 0, none⟩) := by rw [ha0]; rfl
      have e5 : (a0.tmps[5]?).getD undef = .pointer (some ⟨B, 0, none⟩) := by rw [ha0]; rfl
      have HA := Lib.hid ha0
      clear ha0
      have hdw := V.out.dg.dice
      have hps := V.out.ps
      have hsB := V.out.sB
      have hqs : ∀ k, tv.ownBlock = some k → w.heap.size ≤ k ∧ k < wr.heap.size := V.out.ot.lt
      have hne := V.out.ne
      have hrs : ∀ k, rv.ownBlock = some k → w.heap.size ≤ k ∧ k < wr.heap.size := V.out.orr.lt
      have hvo : ∀ f k, k ∉ [23, 24, 25, 26, 27, 28, 29] → ((fr a0 [23, 24, 25, 26, 27, 28, 29] f).tmps[k]?).getD undef = (a0.tmps[k]?).getD undef := fun f k hk => fr_at_out hk hlt
      have hvi : ∀ f k, k ∈ [23, 24, 25, 26, 27, 28, 29] → ((fr a0 [23, 24, 25, 26, 27, 28, 29] f).tmps[k]?).getD undef = f k := fun f k hk => fr_at_in hk hlt
      refine region_list [23, 24, 25, 26, 27, 28, 29] (E5 p B tv.ownBlock) (F5 p w.heap.size B tv tv.ownBlock) (T5 w.heap.size B tv rv tm [x, y]) rfl (by kernel_rfl) (by kernel_rfl) (by kernel_rfl) hlt (fun _ _ _ h1 h2 => h1.trans h2) (fun d v w w' h1 h2 => F5.keep h1 h2) (E5.refl (hdw.drewN 1)) ?_ ?_ ?_
      · exact ⟨V.out.orr.drew, V.out.oR, (fun h => by cases h), (fun h => by cases h), fun _ => V.out.ot.drew, (fun h => by cases h), fun _ => V.out.oB, (fun h => by cases h)⟩
      · intro k f W hk hE hT hF
        have h5 : k 5 = true := hk 5 (by decide)
        have h7 : k 7 = true := hk 7 (by decide)
        obtain ⟨r, hr, ho', hap⟩ := hT.new h5
        have V2 := Lib.hid (show CalV p w.heap.size B w W (.slice none 0 0) (f 28) rv [] (tm ++ [(r : Int)]) [x, y] from
          ⟨⟨hE.os.trans V.out.dg.os, hE.tape.trans V.out.dg.tape, hE.output.trans V.out.dg.output, Nat.le_trans V.out.dg.size hE.size, fun k h1 h2 => (hE.block k (Nat.lt_of_lt_of_le h2 V.out.dg.size) h1 (by omega) (fun e => by have := (hqs k e.symm).1; omega)).trans (V.out.dg.block k h1 h2), hE.dice⟩, hps, hsB, rfl, hT.b1 h7, hT.oR, World.ownsRow_nil _ _ _ _, ho', hT.orr, hap, fun z hz => by simp at hz⟩)
        have HR2 := Lib.hid hr
        clear hr ho' hap hk hE hT hF h5 h7 hvo hvi hqs hrs hne e0 e5 hdw hps hsB
        have hA := HA.out
        subst hA
        simp only [fr]
        generalize f 23 = f23 at *
        generalize f 24 = f24 at *
        generalize f 25 = f25 at *
        generalize f 26 = f26 at *
        generalize f 27 = f27 at *
        generalize f 28 = f28 at *
        generalize f 29 = f29 at *
        go_wp2_with fail
        go_roundg (n - (kk + 1))
        case measure => omega
        case rel =>
          refine ⟨kk + 1, f28, tm ++ [(r : Int)], by omega, by omega, by go_num, by simp [hlen], (show Aside _ from fun t ht => ?_), V2.out⟩
          rcases List.mem_append.1 ht with ht | ht
          · exact HT.out t ht
          · have := HR2.out
            rw [List.mem_singleton] at ht
            omega
      · refine ⟨?_, ?_, ?_, ?_, ?_, ?_, ?_, ?_, trivial⟩
        · refine step_val 23 rfl ?_
          intro l f W hE hT hl hd hF
          refine ⟨.pointer (some ⟨B, 1, none⟩), W, ?_, E5.refl hE.dice, hT.soft hps hsB (Dg.refl hE.dice) rfl rfl rfl (fun h => h), F5.at23⟩
          have hv := (hvo f 5 (by decide)).trans e5
          clear hvo hvi
          generalize fr a0 [23, 24, 25, 26, 27, 28, 29] f = A at *
          go_simp
        · refine step_val 24 rfl ?_
          intro l f W hE hT hl hd hF
          have h5 : l 5 = false := by cases h : l 5 with | false => rfl | true => rw [hT.o15 h] at hl; cases hl
          have h7 : l 7 = false := by cases h : l 7 with | false => rfl | true => rw [hT.o57 h] at h5; cases h5
          refine ⟨tv, W, ?_, E5.refl hE.dice, hT.soft hps hsB (Dg.refl hE.dice) rfl rfl rfl (fun _ => rfl), F5.at24⟩
          have hv := (hvi f 23 (by decide)).trans ((hF 0 23 rfl (dep hd 0 ⟨0, .data⟩ rfl rfl)).1 rfl)
          have hc := heap_cell (hT.b0 h7) 1
          clear hvo hvi hF hd hT
          generalize fr a0 [23, 24, 25, 26, 27, 28, 29] f = A at *
          go_simp
        · refine step_val 25 rfl ?_
          intro l f W hE hT hl hd hF
          refine ⟨.pointer (some ⟨p, 0, none⟩), W, ?_, E5.refl hE.dice, hT.soft hps hsB (Dg.refl hE.dice) rfl rfl rfl (fun h => h), F5.at25⟩
          have hv := (hvo f 0 (by decide)).trans e0
          clear hvo hvi hF hd hT
          generalize fr a0 [23, 24, 25, 26, 27, 28, 29] f = A at *
          go_simp
        · refine step_call 26 rfl (g := 12) ?_
          intro l f W hE hT hl hd hF
          refine ⟨#[.pointer (some ⟨p, 0, none⟩), .int .i64 2], ?_, ?_⟩
          · have hv := (hvi f 25 (by decide)).trans ((hF 2 25 rfl (dep hd 0 ⟨2, .data⟩ rfl rfl)).2.2.1 rfl)
            clear hvo hvi hF hd hT
            generalize fr a0 [23, 24, 25, 26, 27, 28, 29] f = A at *
            go_simp
          · refine (next_any p 2 W hE.dice (by decide) (by decide)).mono ?_
            rintro e W' ⟨⟨r, hr, rfl⟩, hk⟩
            exact ⟨_, rfl, hk.dg.e5, hT.soft hps hsB hk.dg rfl rfl rfl (fun h => h), F5.at26 r (by omega)⟩
        · refine step_val 27 rfl ?_
          intro l f W hE hT hl hd hF
          obtain ⟨r, hr, hf⟩ := (hF 3 26 rfl (dep hd 0 ⟨3, .data⟩ rfl rfl)).2.2.2.1 rfl
          have hsz : W.heap.size ≥ wr.heap.size := hE.size
          have hBW := hT.hB
          refine ⟨.slice (some ⟨W.heap.size, 0, none⟩) 1 1, W.alloc (.cells #[.int .i64 r] 3), ?_, ((Dg.refl hE.dice).alloc _).e5, hT.soft hps hsB ((Dg.refl hE.dice).alloc _) rfl rfl rfl (fun h => h), F5.at27 hps r hr ⟨W.heap.size, rfl, by omega, by simp, by omega, fun h => ?_, World.cell?_alloc_at _ _ _ _ rfl⟩⟩
          · have hv := (hvi f 26 (by decide)).trans hf
            clear hvo hvi hF hd hT hqs hrs
            generalize fr a0 [23, 24, 25, 26, 27, 28, 29] f = A at *
            go_simp
          · have := (hqs _ h.symm).2
            omega
        · refine step_val 28 rfl ?_
          intro l f W hE hT hl hd hF
          have ho := hT.old hl
          have h24 : f 24 = tv := (hF 1 24 rfl (dep hd 0 ⟨1, .data⟩ rfl rfl)).2.1 rfl
          have h1 : l 1 = true := dep hd 0 ⟨1, .data⟩ rfl rfl
          have h7 : l 7 = false := by cases h : l 7 with | false => rfl | true => rw [hT.o57 h] at hl; cases hl
          obtain ⟨_, r, hr, b, hv, hb, hbs, hbB, hbq, hc⟩ := (hF 4 27 rfl (dep hd 1 ⟨4, .data⟩ rfl rfl)).2.2.2.2.1 rfl
          have hsz : W.heap.size ≥ wr.heap.size := hE.size
          have hI : IntsAt W (.slice (some ⟨b, 0, none⟩) 1 1) [(r : Int)] := ⟨by simp, _, 1, rfl, .inr ⟨b, 0, rfl, hbs, fun j hj => by
            have : j = 0 := by simpa using hj
            subst this
            exact hc⟩⟩
          obtain ⟨v', W', hrun, ho', hg, hnew⟩ := run_append_ints W w.heap.size 22 tv _ tm [(r : Int)] ho hI (fun n m e => by cases e) (by simp; omega) (by have := V.out.dg.size; omega)
          have hgB := hT.b0 h7
          refine ⟨v', W', run_app rfl ((fr_in (by decide) hlt).trans h24) ((fr_in (by decide) hlt).trans hv) hrun, ⟨hg.os, hg.tape, hg.output, hg.size, fun k h1 _ _ h4 => hg.block k h1 h4, hE.dice.below ⟨hg.os, hg.tape, hg.output, hg.size, fun k hk => hg.block k (by omega) (fun e => by have := (hqs k e.symm).1; omega)⟩⟩, ⟨World.ownsRow.kept hT.orr hg ?_, (hg.block _ (Array.getElem?_eq_some_iff.1 hT.oR).1 (fun e => own_ne ho hT.oR (by decide) e.symm)).trans hT.oR, fun _ => h1, fun _ => rfl, (fun h => by cases h), fun _ => ⟨r, hr, ho', ?_⟩, fun _ => (hg.block B hT.hB (fun e => own_ne ho hgB (by decide) e.symm)).trans hgB, fun h => ?_⟩, F5.at28⟩
          · by_cases e : rv.ownBlock = none
            · exact .inl e
            · right
              intro e2
              obtain ⟨g, hg2⟩ := Option.ne_none_iff_exists'.1 e
              exact hne g (by rw [← e2]; exact hg2) hg2
          · intro g h1 h2
            rcases hnew with hn | hn
            · exact hne g (by rw [← hn]; exact h1) h2
            · have := hn g h1
              have := (hrs g h2).2
              omega
          · rw [show upd l 5 7 = l 7 from rfl, h7] at h
            cases h
        · refine step_val 29 rfl ?_
          intro l f W hE hT hl hd hF
          refine ⟨.pointer (some ⟨B, 1, none⟩), W, ?_, E5.refl hE.dice, hT.soft hps hsB (Dg.refl hE.dice) rfl rfl rfl (fun h => h), F5.at29⟩
          have hv := (hvo f 5 (by decide)).trans e5
          clear hvo hvi hF hd hT
          generalize fr a0 [23, 24, 25, 26, 27, 28, 29] f = A at *
          go_simp
        · refine step_skip rfl ?_
          intro l f W hE hT hl hd hF
          have h5 : l 5 = true := dep hd 1 ⟨5, .data⟩ rfl rfl
          obtain ⟨r, hr, ho', hap⟩ := hT.new h5
          have hB := hT.b0 hl
          refine ⟨W.setCell ⟨B, 1, none⟩ (f 28), ?_, ⟨rfl, rfl, rfl, by simp, fun k h1 h2 h3 _ => Below.heap_setCell _ _ _ _ h3, hE.dice.below ((Below.refl _ _).setCell (p := ⟨B, 1, none⟩) (show p + 1 ≤ B by omega) _)⟩, ⟨ownsRow_setCell_other hT.orr (own_ne hT.orr hB (by decide)) _, (Below.heap_setCell _ _ _ _ (show w.heap.size ≠ B by omega)).trans hT.oR, fun h => hT.o15 h5, fun _ => h5, (fun h => by rw [show upd l 7 5 = l 5 from rfl, h5] at h; cases h), fun _ => ⟨r, hr, ownsRow_setCell_other ho' (own_ne ho' hB (by decide)) _, hap⟩, (fun h => by cases h), fun _ => heap_set hB 1 _⟩⟩
          have hv := (hvi f 29 (by decide)).trans ((hF 6 29 rfl (dep hd 0 ⟨6, .data⟩ rfl rfl)).2.2.2.2.2 rfl)
          have hv2 := hvi f 28 (by decide)
          have hc := heap_cell hB 1
          have hz := heap_free hB 1
          obtain ⟨a28, m28, e28⟩ := ho'.form
          rw [e28] at hv2 ⊢
          clear hvo hvi hF hd hT hqs hrs hne
          generalize fr a0 [23, 24, 25, 26, 27, 28, 29] f = A at *
          go_simp
    · have hltz : ¬ (kk : Int) < (n : Int) := by omega
      have hkn : kk = n := by omega
      subst hkn
      have HLEN := Lib.hid hlen
      clear hlen V0
      go_wp2_with fail
      refine (next_any p 4 wr V.out.dg.dice (by decide) (by decide)).mono ?_
      rintro e w3 ⟨⟨r1, hr1, rfl⟩, hk⟩
      have V3 := Lib.hid (V.out.soft hk.dg)
      clear hk
      go_wp2_with fail
      refine (next_any p 4 w3 V3.out.dg.dice (by decide) (by decide)).mono ?_
      rintro e w4 ⟨⟨r2, hr2, rfl⟩, hk⟩
      have V4 := Lib.hid (V3.out.soft hk.dg)
      have hw2 : wrap64 (2 + (r2 : Int)) = ((r2 + 2 : Nat) : Int) := by unfold wrap64; omega
      have HR1 := Lib.hid hr1
      have HR2 := Lib.hid hr2
      clear hk hr1 hr2 V V3
      have HW2 := Lib.hid (congrArg (Value.int .i64) hw2)
      clear hw2
      go_wp2_with fail
      go_loopg [7, 8, 9] (r2 + 2) (fun gg s7 s8 s9 wx => ∃ (i fm : Nat) (wv : Value) (ws : List Win), i ≤ gg ∧ s8 = .int .i64 i ∧ s7 = .int .i64 fm ∧ Aside (i + ws.length = r2 + 2 ∧ r2 + 2 ≤ 5) ∧ Aside (fm ≤ 3 + 35 * ws.length) ∧ Aside (WinsOk fm ws) ∧ Aside (CalV p w.heap.size B w wx wv tv rv ws tm [x, y]))
      case atStart => exact ⟨r2 + 2, r1, _, [], Nat.le_refl _, HW2.out, rfl, (show _ ∧ _ from ⟨by simp, by have := HR2.out; omega⟩), (show r1 ≤ 3 + 35 * 0 by have := HR1.out; omega), WinsOk.nil _, V4.out⟩
      case round =>
        obtain ⟨i, fm, wv, ws, hi, rfl, rfl, HI, HFM, HW, V⟩ := hrel
        by_cases hip : 0 < i
        · have hiz : (0 : Int) < (i : Int) := by omega
          have hfm1 : wrap64 ((fm : Int) + 1) = ((fm + 1 : Nat) : Int) := by unfold wrap64; have h1 := HI.out; have h2 := HFM.out; omega
          go_wp2_with fail
          have hs := (Array.getElem?_eq_some_iff.1 V.out.oB).1
          have hpw : p < wr.heap.size := by have := V.out.ps; have := V.out.sB; omega
          refine (of_any p _ [30, 5, 1] _ (((Dg.refl V.out.dg.dice).alloc _).dice) (by decide) (by decide) (lit_dk hpw [30, 5, 1] (by decide))).mono ?_
          rintro e w5 ⟨⟨z, hz, rfl⟩, hk⟩
          have V5 := Lib.hid (V.out.soft (((Dg.refl V.out.dg.dice).alloc (.cells #[.int .i64 30, .int .i64 5, .int .i64 1] 3)).trans hk.dg))
          obtain ⟨zz, hzz, rfl⟩ : ∃ zz : Nat, (1 ≤ zz ∧ zz ≤ 30) ∧ z = (zz : Int) := by
            simp only [List.mem_cons, List.not_mem_nil, or_false] at hz
            rcases hz with rfl | rfl | rfl
            · exact ⟨30, by omega, rfl⟩
            · exact ⟨5, by omega, rfl⟩
            · exact ⟨1, by omega, rfl⟩
          have HZ := Lib.hid hzz
          have hfm2 : wrap64 ((fm : Int) + 1 + (zz : Int)) = ((fm + 1 + zz : Nat) : Int) := by unfold wrap64; have h1 := HI.out; have h2 := HFM.out; omega
          clear hk hz hzz hs hpw V
          generalize wr.alloc (.cells #[.int .i64 30, .int .i64 5, .int .i64 1] 3) = wy at *
          have HF2 := Lib.hid hfm2
          clear hfm2
          go_upto_region 11 with fail
          rw [HF2.out]
          clear HF2
          have HTT := Lib.hid (show fm < fm + 1 + zz by omega)
          have HT2 := Lib.hid (show fm + 1 + zz ≤ 3 + 35 * ws.length + 31 by have h1 := HFM.out; have h2 := HZ.out; omega)
          generalize fm + 1 + zz = t2 at *
          refine wp_named fun a0 ha0 => ?_
          have z0 : a0.tmps.size = 68 := by rw [ha0]; rfl
          have hlt := lt_of_all (ds := [45, 46, 47, 48, 49, 50, 51, 52, 53, 54, 55, 56, 57, 58, 59, 60, 61, 62]) (n := a0.tmps.size) (by rw [z0]; rfl)
          have e0 : (a0.tmps[0]?).getD undef = .pointer (some ⟨p, 0, none⟩) := by rw [ha0]; rfl
          have e5 : (a0.tmps[5]?).getD undef = .pointer (some ⟨B, 0, none⟩) := by rw [ha0]; rfl
          have e7 : (a0.tmps[7]?).getD undef = .int .i64 fm := by rw [ha0]; rfl
          have e9 : (a0.tmps[9]?).getD undef = .int .i64 t2 := by rw [ha0]; rfl
          have HA := Lib.hid ha0
          clear ha0
          have hdw := V5.out.dg.dice
          have hps := V5.out.ps
          have hsB := V5.out.sB
          have hqs : ∀ k, wv.ownBlock = some k → w.heap.size ≤ k ∧ k < w5.heap.size := V5.out.ow.lt
          have hvo : ∀ f k, k ∉ [45, 46, 47, 48, 49, 50, 51, 52, 53, 54, 55, 56, 57, 58, 59, 60, 61, 62] → ((fr a0 [45, 46, 47, 48, 49, 50, 51, 52, 53, 54, 55, 56, 57, 58, 59, 60, 61, 62] f).tmps[k]?).getD undef = (a0.tmps[k]?).getD undef := fun f k hk => fr_at_out hk hlt
          have hvi : ∀ f k, k ∈ [45, 46, 47, 48, 49, 50, 51, 52, 53, 54, 55, 56, 57, 58, 59, 60, 61, 62] → ((fr a0 [45, 46, 47, 48, 49, 50, 51, 52, 53, 54, 55, 56, 57, 58, 59, 60, 61, 62] f).tmps[k]?).getD undef = f k := fun f k hk => fr_at_in hk hlt
          refine region_list [45, 46, 47, 48, 49, 50, 51, 52, 53, 54, 55, 56, 57, 58, 59, 60, 61, 62] (E11 p w.heap.size) (F11 p w.heap.size B fm t2 wv) (T11 w.heap.size B fm t2 wv tv rv ws tm [x, y]) rfl (by kernel_rfl) (by kernel_rfl) (by kernel_rfl) hlt (fun _ _ _ h1 h2 => h1.trans h2) (fun d v w w' h1 h2 => F11.keep h1 h2) (E11.refl (hdw.drewN 1)) ?_ ?_ ?_
          · exact ⟨V5.out.oR, V5.out.ot.drew, V5.out.orr.drew, (fun x hx => (V5.out.teams x hx).drew), (fun h => by cases h), (fun h => by cases h), fun _ => V5.out.ow.drew, (fun h => by cases h), (fun h => by cases h), fun _ => V5.out.oB, (fun h => by cases h)⟩
          · intro k f W hk hE hT hF
            have h16 : k 16 = true := hk 16 (by decide)
            have h18 : k 18 = true := hk 18 (by decide)
            obtain ⟨u, tl, q1, q2, q3⟩ := hT.new h16
            have V6 := Lib.hid (show CalV p w.heap.size B w W (f 61) tv rv (ws ++ [⟨(fm : Int), (t2 : Int), u, tl⟩]) tm [x, y] from
              ⟨⟨hE.os.trans V5.out.dg.os, hE.tape.trans V5.out.dg.tape, hE.output.trans V5.out.dg.output, Nat.le_trans V5.out.dg.size hE.size, fun k h1 h2 => (hE.base k h2 h1).trans (V5.out.dg.block k h1 h2), hE.dice⟩, hps, hsB, rfl, hT.b1 h18, hT.oR, q3, hT.ot, hT.orr, V5.out.ne, fun z hz => by
                rcases List.mem_append.1 hz with hz | hz
                · exact hT.teams z hz
                · rw [List.mem_singleton] at hz
                  subst hz
                  exact q2⟩)
            have W6 := Lib.hid (show WinsOk t2 (ws ++ [⟨(fm : Int), (t2 : Int), u, tl⟩]) from HW.out.snoc rfl (by have := HTT.out; show (fm : Int) < (t2 : Int); omega) (Int.le_refl _) q1)
            have L6 := Lib.hid (show (ws ++ [(⟨(fm : Int), (t2 : Int), u, tl⟩ : Win)]).length = ws.length + 1 by simp)
            generalize ws ++ [(⟨(fm : Int), (t2 : Int), u, tl⟩ : Win)] = ws2 at *
            clear hk hE hT hF h16 h18 q1 q2 q3 hvo hvi hqs e0 e5 e7 e9 hdw hps hsB HW V5 HTT
            have hA := HA.out
            subst hA
            simp only [fr]
            generalize f 45 = f45 at *
            generalize f 46 = f46 at *
            generalize f 47 = f47 at *
            generalize f 48 = f48 at *
            generalize f 49 = f49 at *
            generalize f 50 = f50 at *
            generalize f 51 = f51 at *
            generalize f 52 = f52 at *
            generalize f 53 = f53 at *
            generalize f 54 = f54 at *
            generalize f 55 = f55 at *
            generalize f 56 = f56 at *
            generalize f 57 = f57 at *
            generalize f 58 = f58 at *
            generalize f 59 = f59 at *
            generalize f 60 = f60 at *
            generalize f 61 = f61 at *
            generalize f 62 = f62 at *
            go_wp2_with fail
            refine (next_any p 5 W V6.out.dg.dice (by decide) (by decide)).mono ?_
            rintro e w7 ⟨⟨r, hr, rfl⟩, hk⟩
            have V7 := Lib.hid (V6.out.soft hk.dg)
            have HR := Lib.hid hr
            have HS := Lib.hid (congrArg (Value.int .i64) (show wrap64 ((t2 : Int) + (r : Int)) = ((t2 + r : Nat) : Int) by unfold wrap64; have h1 := HT2.out; have h2 := HI.out; omega))
            clear hk hr V6
            go_wp2_with fail
            have HI1 := Lib.hid (congrArg (Value.int .i64) (show wrap64 ((i : Int) - 1) = ((i - 1 : Nat) : Int) by unfold wrap64; have h2 := HI.out; omega))
            go_roundg (i - 1)
            case measure => omega
            case rel =>
              refine ⟨i - 1, t2 + r, f61, ws2, by omega, (by first | exact HI1.out | exact congrArg (Value.int .i64) (by omega)), HS.out, (show Aside _ from ?_), (show Aside _ from ?_), (show Aside _ from ?_), V7.out⟩
              · show i - 1 + ws2.length = r2 + 2 ∧ r2 + 2 ≤ 5
                have h1 := HI.out
                have h2 := L6.out
                omega
              · show t2 + r ≤ 3 + 35 * ws2.length
                have h1 := HT2.out
                have h2 := L6.out
                have h3 := HR.out
                omega
              · have h := W6.out
                exact ⟨fun z hz => by have := h.days z hz; omega, h.teams, h.apart⟩
          · refine ⟨?_, ?_, ?_, ?_, ?_, ?_, ?_, ?_, ?_, ?_, ?_, ?_, ?_, ?_, ?_, ?_, ?_, ?_, ?_, trivial⟩
            · refine step_val 45 rfl ?_
              intro l f W hE hT hl hd hF
              refine ⟨.pointer (some ⟨B, 0, none⟩), W, ?_, E11.refl hE.dice, hT.soft hps hsB (Dg.refl hE.dice) rfl rfl rfl rfl rfl (fun h => h), F11.at45⟩
              have hv := (hvo f 5 (by decide)).trans e5
              clear hvo hvi hF hd hT hqs
              generalize fr a0 [45, 46, 47, 48, 49, 50, 51, 52, 53, 54, 55, 56, 57, 58, 59, 60, 61, 62] f = A at *
              go_simp
            · refine step_val 46 rfl ?_
              intro l f W hE hT hl hd hF
              have h16 : l 16 = false := by cases h : l 16 with | false => rfl | true => rw [hT.o1 h] at hl; cases hl
              have h18 : l 18 = false := by cases h : l 18 with | false => rfl | true => rw [hT.o16 h] at h16; cases h16
              refine ⟨wv, W, ?_, E11.refl hE.dice, hT.soft hps hsB (Dg.refl hE.dice) rfl rfl rfl rfl rfl (fun _ => rfl), F11.at46⟩
              have hv := (hvi f 45 (by decide)).trans (hF 0 45 rfl (dep hd 0 ⟨0, .data⟩ rfl rfl)).of45
              have hc := heap_cell (hT.b0 h18) 0
              clear hvo hvi hF hd hT hqs
              generalize fr a0 [45, 46, 47, 48, 49, 50, 51, 52, 53, 54, 55, 56, 57, 58, 59, 60, 61, 62] f = A at *
              go_simp
            · refine step_val 47 rfl ?_
              intro l f W hE hT hl hd hF
              refine ⟨.int .i64 fm, W, ?_, E11.refl hE.dice, hT.soft hps hsB (Dg.refl hE.dice) rfl rfl rfl rfl rfl (fun h => h), F11.at47⟩
              have hv := (hvo f 7 (by decide)).trans e7
              clear hvo hvi hF hd hT hqs
              generalize fr a0 [45, 46, 47, 48, 49, 50, 51, 52, 53, 54, 55, 56, 57, 58, 59, 60, 61, 62] f = A at *
              go_simp
            · refine step_val 48 rfl ?_
              intro l f W hE hT hl hd hF
              refine ⟨.int .i64 t2, W, ?_, E11.refl hE.dice, hT.soft hps hsB (Dg.refl hE.dice) rfl rfl rfl rfl rfl (fun h => h), F11.at48⟩
              have hv := (hvo f 9 (by decide)).trans e9
              clear hvo hvi hF hd hT hqs
              generalize fr a0 [45, 46, 47, 48, 49, 50, 51, 52, 53, 54, 55, 56, 57, 58, 59, 60, 61, 62] f = A at *
              go_simp
            · refine step_val 49 rfl ?_
              intro l f W hE hT hl hd hF
              refine ⟨.agg #[.int .i64 fm, .int .i64 t2], W, ?_, E11.refl hE.dice, hT.soft hps hsB (Dg.refl hE.dice) rfl rfl rfl rfl rfl (fun h => h), F11.at49⟩
              have hv := (hvi f 47 (by decide)).trans (hF 2 47 rfl (dep hd 0 ⟨2, .data⟩ rfl rfl)).of47
              have hv2 := (hvi f 48 (by decide)).trans (hF 3 48 rfl (dep hd 1 ⟨3, .data⟩ rfl rfl)).of48
              clear hvo hvi hF hd hT hqs
              generalize fr a0 [45, 46, 47, 48, 49, 50, 51, 52, 53, 54, 55, 56, 57, 58, 59, 60, 61, 62] f = A at *
              go_simp
            · refine step_val 50 rfl ?_
              intro l f W hE hT hl hd hF
              have hsW : w.heap.size ≤ W.heap.size := Nat.le_of_lt hT.hs
              refine ⟨.slice (some ⟨W.heap.size, 0, none⟩) 2 2, W.alloc (.cells #[.int .i64 0, .int .i64 1] 3), ?_, ((Dg.refl hE.dice).alloc _).e11 hps hsW, hT.soft hps hsB ((Dg.refl hE.dice).alloc _) rfl rfl rfl rfl rfl (fun h => h), F11.at50 (World.ownsRow_lit W #[.int .i64 0, .int .i64 1] 2 hsW (by unfold maxLen; omega) rfl)⟩
              clear hvo hvi hF hd hT hqs
              generalize fr a0 [45, 46, 47, 48, 49, 50, 51, 52, 53, 54, 55, 56, 57, 58, 59, 60, 61, 62] f = A at *
              go_simp
            · refine step_val 51 rfl ?_
              intro l f W hE hT hl hd hF
              have hsW : w.heap.size ≤ W.heap.size := Nat.le_of_lt hT.hs
              refine ⟨.slice (some ⟨W.heap.size, 0, none⟩) 2 2, W.alloc (.cells #[.int .i64 0, .int .i64 1] 3), ?_, ((Dg.refl hE.dice).alloc _).e11 hps hsW, hT.soft hps hsB ((Dg.refl hE.dice).alloc _) rfl rfl rfl rfl rfl (fun h => h), F11.at51 (World.ownsRow_lit W #[.int .i64 0, .int .i64 1] 2 hsW (by unfold maxLen; omega) rfl)⟩
              clear hvo hvi hF hd hT hqs
              generalize fr a0 [45, 46, 47, 48, 49, 50, 51, 52, 53, 54, 55, 56, 57, 58, 59, 60, 61, 62] f = A at *
              go_simp
            · refine step_val 52 rfl ?_
              intro l f W hE hT hl hd hF
              have hsW : w.heap.size ≤ W.heap.size := Nat.le_of_lt hT.hs
              refine ⟨.slice (some ⟨W.heap.size, 0, none⟩) 1 1, W.alloc (.cells #[.int .i64 0] 3), ?_, ((Dg.refl hE.dice).alloc _).e11 hps hsW, hT.soft hps hsB ((Dg.refl hE.dice).alloc _) rfl rfl rfl rfl rfl (fun h => h), F11.at52 (World.ownsRow_lit W #[.int .i64 0] 1 hsW (by unfold maxLen; omega) rfl)⟩
              clear hvo hvi hF hd hT hqs
              generalize fr a0 [45, 46, 47, 48, 49, 50, 51, 52, 53, 54, 55, 56, 57, 58, 59, 60, 61, 62] f = A at *
              go_simp
            · refine step_val 53 rfl ?_
              intro l f W hE hT hl hd hF
              have hsW : w.heap.size ≤ W.heap.size := Nat.le_of_lt hT.hs
              refine ⟨.slice (some ⟨W.heap.size, 0, none⟩) 1 1, W.alloc (.cells #[.int .i64 1] 3), ?_, ((Dg.refl hE.dice).alloc _).e11 hps hsW, hT.soft hps hsB ((Dg.refl hE.dice).alloc _) rfl rfl rfl rfl rfl (fun h => h), F11.at53 (World.ownsRow_lit W #[.int .i64 1] 1 hsW (by unfold maxLen; omega) rfl)⟩
              clear hvo hvi hF hd hT hqs
              generalize fr a0 [45, 46, 47, 48, 49, 50, 51, 52, 53, 54, 55, 56, 57, 58, 59, 60, 61, 62] f = A at *
              go_simp
            · refine step_val 54 rfl ?_
              intro l f W hE hT hl hd hF
              have hsW : w.heap.size ≤ W.heap.size := Nat.le_of_lt hT.hs
              have o50 := (hF 5 50 rfl (dep hd 0 ⟨5, .data⟩ rfl rfl)).of50
              have o51 := (hF 6 51 rfl (dep hd 1 ⟨6, .data⟩ rfl rfl)).of51
              have o52 := (hF 7 52 rfl (dep hd 2 ⟨7, .data⟩ rfl rfl)).of52
              have o53 := (hF 8 53 rfl (dep hd 3 ⟨8, .data⟩ rfl rfl)).of53
              have he := ((Dg.refl hE.dice).alloc (.cells #[f 50, f 51, f 52, f 53, .slice none 0 0] 22)).e11 hps hsW
              refine ⟨.slice (some ⟨W.heap.size, 0, none⟩) 5 5, W.alloc (.cells #[f 50, f 51, f 52, f 53, .slice none 0 0] 22), ?_, he, hT.soft hps hsB ((Dg.refl hE.dice).alloc _) rfl rfl rfl rfl rfl (fun h => h), F11.at54 ⟨W.heap.size, _, rfl, hsW, heap_new W _, rfl, fun i u hu => ?_⟩⟩
              · have v50 := hvi f 50 (by decide)
                have v51 := hvi f 51 (by decide)
                have v52 := hvi f 52 (by decide)
                have v53 := hvi f 53 (by decide)
                obtain ⟨a50, m50, q50⟩ := OwnInts.form o50
                obtain ⟨a51, m51, q51⟩ := OwnInts.form o51
                obtain ⟨a52, m52, q52⟩ := OwnInts.form o52
                obtain ⟨a53, m53, q53⟩ := OwnInts.form o53
                rw [q50] at v50 ⊢
                rw [q51] at v51 ⊢
                rw [q52] at v52 ⊢
                rw [q53] at v53 ⊢
                clear hvo hvi hF hd hT hqs he o50 o51 o52 o53 q50 q51 q52 q53
                generalize fr a0 [45, 46, 47, 48, 49, 50, 51, 52, 53, 54, 55, 56, 57, 58, 59, 60, 61, 62] f = A at *
                go_simp
              · match i, hu with
                | 0, hu => cases hu; exact TeamOk.keep ⟨_, .inl rfl, o50⟩ he
                | 1, hu => cases hu; exact TeamOk.keep ⟨_, .inl rfl, o51⟩ he
                | 2, hu => cases hu; exact TeamOk.keep ⟨_, .inr (.inl rfl), o52⟩ he
                | 3, hu => cases hu; exact TeamOk.keep ⟨_, .inr (.inr (.inl rfl)), o53⟩ he
                | 4, hu => cases hu; exact ⟨[], .inr (.inr (.inr rfl)), World.ownsRow_nil _ _ _ _⟩
                | k + 5, hu => simp at hu
            · refine step_val 55 rfl ?_
              intro l f W hE hT hl hd hF
              refine ⟨.pointer (some ⟨p, 0, none⟩), W, ?_, E11.refl hE.dice, hT.soft hps hsB (Dg.refl hE.dice) rfl rfl rfl rfl rfl (fun h => h), F11.at55⟩
              have hv := (hvo f 0 (by decide)).trans e0
              clear hvo hvi hF hd hT hqs
              generalize fr a0 [45, 46, 47, 48, 49, 50, 51, 52, 53, 54, 55, 56, 57, 58, 59, 60, 61, 62] f = A at *
              go_simp
            · refine step_call 56 rfl (g := 12) ?_
              intro l f W hE hT hl hd hF
              refine ⟨#[.pointer (some ⟨p, 0, none⟩), .int .i64 5], ?_, ?_⟩
              · have hv := (hvi f 55 (by decide)).trans (hF 10 55 rfl (dep hd 0 ⟨10, .data⟩ rfl rfl)).of55
                clear hvo hvi hF hd hT hqs
                generalize fr a0 [45, 46, 47, 48, 49, 50, 51, 52, 53, 54, 55, 56, 57, 58, 59, 60, 61, 62] f = A at *
                go_simp
              · refine (next_any p 5 W hE.dice (by decide) (by decide)).mono ?_
                rintro e W' ⟨⟨r, hr, rfl⟩, hk⟩
                exact ⟨_, rfl, hk.dg.e11 hps (Nat.le_of_lt hT.hs), hT.soft hps hsB hk.dg rfl rfl rfl rfl rfl (fun h => h), F11.at56 ⟨r, by omega, rfl⟩⟩
            · refine step_val 57 rfl ?_
              intro l f W hE hT hl hd hF
              obtain ⟨b, cur, q1, q2, q3, q4, q5⟩ := (hF 9 54 rfl (dep hd 0 ⟨9, .data⟩ rfl rfl)).of54
              obtain ⟨r, hr, q6⟩ := (hF 11 56 rfl (dep hd 1 ⟨11, .data⟩ rfl rfl)).of56
              have hu := Array.getElem?_eq_getElem (xs := cur) (i := r) (by omega)
              refine ⟨.pointer (some ⟨b, r, none⟩), W, ?_, E11.refl hE.dice, hT.soft hps hsB (Dg.refl hE.dice) rfl rfl rfl rfl rfl (fun h => h), F11.at57 ⟨b, cur, r, _, rfl, q2, q3, hu, q5 _ _ hu⟩⟩
              have hv := (hvi f 54 (by decide)).trans q1
              have hv2 := (hvi f 56 (by decide)).trans q6
              have hr5 : (r : Int) < 5 := by omega
              have hr0 : (0 : Int) ≤ (r : Int) := by omega
              clear hvo hvi hF hd hT hqs q1 q2 q3 q4 q5 q6 hu
              generalize fr a0 [45, 46, 47, 48, 49, 50, 51, 52, 53, 54, 55, 56, 57, 58, 59, 60, 61, 62] f = A at *
              go_simp
            · refine step_val 58 rfl ?_
              intro l f W hE hT hl hd hF
              obtain ⟨b, cur, i, u, q1, q2, q3, q4, q5⟩ := (hF 12 57 rfl (dep hd 0 ⟨12, .data⟩ rfl rfl)).of57
              refine ⟨u, W, ?_, E11.refl hE.dice, hT.soft hps hsB (Dg.refl hE.dice) rfl rfl rfl rfl rfl (fun h => h), F11.at58 q5⟩
              have hv := (hvi f 57 (by decide)).trans q1
              have hc := (heap_cell q3 i).trans q4
              clear hvo hvi hF hd hT hqs q1 q2 q3 q4 q5
              generalize fr a0 [45, 46, 47, 48, 49, 50, 51, 52, 53, 54, 55, 56, 57, 58, 59, 60, 61, 62] f = A at *
              go_simp
            · refine step_val 59 rfl ?_
              intro l f W hE hT hl hd hF
              have q := (hF 13 58 rfl (dep hd 1 ⟨13, .data⟩ rfl rfl)).of58
              refine ⟨.agg #[.int .i64 fm, .int .i64 t2, f 58], W, ?_, E11.refl hE.dice, hT.soft hps hsB (Dg.refl hE.dice) rfl rfl rfl rfl rfl (fun h => h), F11.at59 ⟨_, rfl, q⟩⟩
              have hv := (hvi f 49 (by decide)).trans (hF 4 49 rfl (dep hd 0 ⟨4, .data⟩ rfl rfl)).of49
              have hv2 := hvi f 58 (by decide)
              obtain ⟨a58, n58, m58, q58⟩ := q.form
              rw [q58] at hv2 ⊢
              clear hvo hvi hF hd hT hqs q q58
              generalize fr a0 [45, 46, 47, 48, 49, 50, 51, 52, 53, 54, 55, 56, 57, 58, 59, 60, 61, 62] f = A at *
              go_simp
            · refine step_val 60 rfl ?_
              intro l f W hE hT hl hd hF
              obtain ⟨u, q1, q2⟩ := (hF 14 59 rfl (dep hd 0 ⟨14, .data⟩ rfl rfl)).of59
              have hsW : w.heap.size ≤ W.heap.size := Nat.le_of_lt hT.hs
              have hD := (Dg.refl hE.dice).alloc (.cells #[.int .i64 fm, .int .i64 t2, u] 58)
              have hT2 := hT.soft (l' := l) (f' := f) hps hsB hD rfl rfl rfl rfl rfl (fun h => h)
              refine ⟨.slice (some ⟨W.heap.size, 0, none⟩) 1 1, W.alloc (.cells #[.int .i64 fm, .int .i64 t2, u] 58), ?_, hD.e11 hps hsW, ⟨hT2.oR, hT2.ot, hT2.orr, hT2.teams, hT2.o1, hT2.o16, hT2.old, fun _ _ => ⟨W.heap.size, u, rfl, hsW, heap_new W _, q2.keep (hD.e11 hps hsW)⟩, hT2.new, hT2.b0, hT2.b1⟩, F11.at60⟩
              have hv := (hvi f 59 (by decide)).trans q1
              obtain ⟨a58, n58, m58, q58⟩ := q2.form
              subst q58
              clear hvo hvi hF hd hT hT2 hD hqs q1 q2
              generalize fr a0 [45, 46, 47, 48, 49, 50, 51, 52, 53, 54, 55, 56, 57, 58, 59, 60, 61, 62] f = A at *
              go_simp
            · refine step_val 61 rfl ?_
              intro l f W hE hT hl hd hF
              have ho := hT.old hl
              have h15 : l 15 = true := dep hd 1 ⟨15, .data⟩ rfl rfl
              have h1 : l 1 = true := dep hd 0 ⟨1, .data⟩ rfl rfl
              have h46 := (hF 1 46 rfl h1).of46
              have h18 : l 18 = false := by cases h : l 18 with | false => rfl | true => rw [hT.o16 h] at hl; cases hl
              obtain ⟨b, u, q1, q2, q3, q4⟩ := hT.lit h15 hl
              have hgB := hT.b0 h18
              have hsW := hT.hs
              obtain ⟨a58, n58, m58, q58⟩ := q4.form
              obtain ⟨tl, q5, q6⟩ := q4
              have hl5 : ws.length ≤ 100 := by have := HI.out; omega
              obtain ⟨v', W', hrun, ho', hg⟩ := run_append_win W w.heap.size 23 wv b ws ⟨(fm : Int), (t2 : Int), u, tl⟩ ho q3 (by rw [q58]; rfl) hl5 (by omega)
              have he : E11 p w.heap.size W W' := ⟨hg.os, hg.tape, hg.output, hg.size, fun k h1 h2 => hg.block k (by omega) (fun e => by have := (hqs k e.symm).1; omega), fun k cur h1 h2 => hg.block k (Array.getElem?_eq_some_iff.1 h2).1 (fun e => own_ne ho h2 (by decide) e.symm), fun k cur h1 h2 => hg.block k (Array.getElem?_eq_some_iff.1 h2).1 (fun e => own_ne ho h2 (by decide) e.symm), hE.dice.below ⟨hg.os, hg.tape, hg.output, hg.size, fun k hk => hg.block k (by omega) (fun e => by have := (hqs k e.symm).1; omega)⟩⟩
              refine ⟨v', W', run_app rfl ((fr_in (by decide) hlt).trans h46) ((fr_in (by decide) hlt).trans q1) hrun, he, ⟨(hg.block _ hsW (fun e => own_ne ho hT.oR (by decide) e.symm)).trans hT.oR, own_e11 hT.ot he, own_e11 hT.orr he, fun z hz => own_e11 (hT.teams z hz) he, fun _ => h1, fun _ => rfl, (fun h => by cases h), (fun _ h => by cases h), fun _ => ⟨u, tl, q5, own_e11 q6 he, ho'⟩, fun _ => (hg.block B hT.hB (fun e => own_ne ho hgB (by decide) e.symm)).trans hgB, fun h => ?_⟩, F11.at61⟩
              rw [show upd l 16 18 = l 18 from rfl, h18] at h
              cases h
            · refine step_val 62 rfl ?_
              intro l f W hE hT hl hd hF
              refine ⟨.pointer (some ⟨B, 0, none⟩), W, ?_, E11.refl hE.dice, hT.soft hps hsB (Dg.refl hE.dice) rfl rfl rfl rfl rfl (fun h => h), F11.at62⟩
              have hv := (hvo f 5 (by decide)).trans e5
              clear hvo hvi hF hd hT hqs
              generalize fr a0 [45, 46, 47, 48, 49, 50, 51, 52, 53, 54, 55, 56, 57, 58, 59, 60, 61, 62] f = A at *
              go_simp
            · refine step_skip rfl ?_
              intro l f W hE hT hl hd hF
              have h16 : l 16 = true := dep hd 1 ⟨16, .data⟩ rfl rfl
              obtain ⟨u, tl, q1, q2, q3⟩ := hT.new h16
              have hB := hT.b0 hl
              have hsW := hT.hs
              have he : E11 p w.heap.size W (W.setCell ⟨B, 0, none⟩ (f 61)) := ⟨rfl, rfl, rfl, by simp, fun k h1 h2 => Below.heap_setCell _ _ _ _ (show k ≠ B by omega), fun k cur h1 h2 => Below.heap_setCell _ _ _ _ (show k ≠ B from fun e => by
                rw [e, hB] at h2
                simp only [Option.some.injEq, Obj.cells.injEq] at h2
                exact absurd h2.2.1 (by decide)), fun k cur h1 h2 => Below.heap_setCell _ _ _ _ (show k ≠ B from fun e => by
                rw [e, hB] at h2
                simp only [Option.some.injEq, Obj.cells.injEq] at h2
                exact absurd h2.2.1 (by decide)), hE.dice.below ((Below.refl _ _).setCell (p := ⟨B, 0, none⟩) (show p + 1 ≤ B by omega) _)⟩
              refine ⟨W.setCell ⟨B, 0, none⟩ (f 61), ?_, he, ⟨(Below.heap_setCell _ _ _ _ (show w.heap.size ≠ B by omega)).trans hT.oR, own_e11 hT.ot he, own_e11 hT.orr he, fun z hz => own_e11 (hT.teams z hz) he, fun _ => hT.o1 h16, fun _ => h16, (fun h => by rw [show upd l 18 16 = l 16 from rfl, h16] at h; cases h), (fun _ h => by rw [show upd l 18 16 = l 16 from rfl, h16] at h; cases h), fun _ => ⟨u, tl, q1, own_e11 q2 he, ownsRow_setCell_other q3 (own_ne q3 hB (by decide)) _⟩, (fun h => by cases h), fun _ => heap_set hB 0 _⟩⟩
              have hv := (hvi f 62 (by decide)).trans (hF 17 62 rfl (dep hd 0 ⟨17, .data⟩ rfl rfl)).of62
              have hv2 := hvi f 61 (by decide)
              have hc := heap_cell hB 0
              have hz := heap_free hB 0
              obtain ⟨a61, n61, m61, e61⟩ := own_form q3
              rw [e61] at hv2 ⊢
              clear hvo hvi hF hd hT hqs he
              generalize fr a0 [45, 46, 47, 48, 49, 50, 51, 52, 53, 54, 55, 56, 57, 58, 59, 60, 61, 62] f = A at *
              go_simp
        · have hiz : ¬ (0 : Int) < (i : Int) := by omega
          obtain ⟨aw, nw, mw, rfl⟩ := own_form V.out.ow
          obtain ⟨at_, nt, mt, rfl⟩ := own_form V.out.ot
          obtain ⟨ar, nr, mr, rfl⟩ := own_form V.out.orr
          have hB := V.out.oB
          have hR := V.out.oR
          have c0 := heap_cell hB 0
          have c1 := heap_cell hB 1
          have c2 := heap_cell hB 2
          have d0 := heap_cell hR 0
          have d1 := heap_cell hR 1
          have d2 := heap_cell hR 2
          have g0 := heap_free hR 0
          have g1 := heap_free hR 1
          have g2 := heap_free hR 2
          clear hB hR
          have hfin := V.out.fin (by have := HI.out; omega) (by have := HLEN.out; omega) (by simp) HW.out.teams
          have HD := Lib.hid hfin.1
          have HK := Lib.hid hfin.2.2.1
          have HFAR := Lib.hid hfin.2.2.2
          have r0 := heap_cell hfin.2.1 0
          have r1 := heap_cell hfin.2.1 1
          have r2 := heap_cell hfin.2.1 2
          have HDR := Lib.hid (show Drawn ⟨ws, tm, [x, y], .slice aw nw mw, .slice at_ nt mt, .slice ar nr mr⟩ kk from ⟨HLEN.out, HT.out, ⟨x, y, rfl, by simpa using HX.out, by simpa using HY.out⟩, ⟨fm, by have h1 := HFM.out; have h2 := HI.out; omega, HW.out⟩, by show 2 ≤ ws.length ∧ ws.length ≤ 5; have h2 := HI.out; omega⟩)
          have HH := Lib.hid hfin.2.1
          clear hfin
          go_wp2_with fail
          refine bodyPost_ret (v := .agg #[.slice aw nw mw, .slice at_ nt mt, .slice ar nr mr]) (results_cell_row rfl _ _ w.heap.size 25 _ (0, 0) _ rfl HH.out Try.underlying25 rfl infoCal) rfl ?_
          exact ⟨_, rfl, HDR.out, HD.out, HK.out, HFAR.out⟩
end Go.Proofs.Ytpbahffkhpfakaa


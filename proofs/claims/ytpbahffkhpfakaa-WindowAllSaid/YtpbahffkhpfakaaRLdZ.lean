import Derived.Test.YtpbahffkhpfakaaROutZ
import Derived.Test.YtpbahffkhpfakaaInv
namespace Go.Proofs.Ytpbahffkhpfakaa
open Go.RowKit
set_option linter.unusedSimpArgs false
set_option linter.unusedVariables false

/-! ## The reference's load -/

theorem wl_app2 {ops : Array Oper} {rest : List Oper} {o : Oper} {a : Act} {w : World} {Q : Exit → Act → World → Prop} {vs vx : Value} (hgd : o.guard = none) (s x : Operand)
    (ho : o.op = .call { callee := .builtin .append, args := #[s, x], argTypes := #[45, 45] }) (hs : a.eval s = vs) (hx : a.eval x = vx) {C : Value → World → Prop}
    (hr : ∃ v' w', (Builtin.append_ #[45, 45] o.type #[vs, vx]).run Try.prog w = .ok v' w' ∧ C v' w') (k : ∀ v' w', C v' w' → wpList Try.prog ops Q rest (a.put o.dst v') w') : wpList Try.prog ops Q (o :: rest) a w := by
  obtain ⟨v', w', h1, h2⟩ := hr
  exact Lib.wpList_append_run w hgd s x _ _ ho vs vx hs hx v' w' h1 (k v' w' h2)

/-- what counting a change may do to the world: one row's block -/
structure E9 (G : Nat) (w w' : World) : Prop where
  os : w'.os = w.os
  tape : w'.tape = w.tape
  output : w'.output = w.output
  size : w.heap.size ≤ w'.heap.size
  block : ∀ k, k < w.heap.size → k ≠ G → w'.heap[k]? = w.heap[k]?
theorem E9.trans {G : Nat} {a b c : World} (h : E9 G a b) (k : E9 G b c) : E9 G a c :=
  ⟨k.os.trans h.os, k.tape.trans h.tape, k.output.trans h.output, Nat.le_trans h.size k.size, fun i h1 h2 => (k.block i (Nat.lt_of_lt_of_le h1 h.size) h2).trans (h.block i h1 h2)⟩
theorem E9.refl (G : Nat) (w : World) : E9 G w w := ⟨rfl, rfl, rfl, Nat.le_refl _, fun _ _ _ => rfl⟩
theorem E9.of {G : Nat} {a b : World} (h : Below a.heap.size a b) : E9 G a b := ⟨h.os, h.tape, h.output, h.size, fun k h1 _ => h.block k h1⟩
theorem E9.cell {G : Nat} {a b : World} (h : E9 G a b) {x : Addr} (h1 : x.block < a.heap.size) (h2 : x.block ≠ G) : b.cell? x = a.cell? x := World.cell?_of_block (w := a) (h.block x.block h1 h2)

def F9 (v30 v31 v32 : Value) (kk b4 o4 : Nat) (d : Int) (m bo G nr t : Nat) (x : Int) (k : Nat) (v : Value) (_ : World) : Prop :=
  (k = 30 → v = v30) ∧ (k = 31 → v = v31) ∧ (k = 32 → v = v32) ∧ (k = 33 → v = .int .i64 kk) ∧ (k = 34 → v = .pointer (some ⟨b4, o4 + kk, none⟩)) ∧ (k = 35 → v = .int .i64 d) ∧ (k = 36 → v = .int .i64 m) ∧
  (k = 37 → v = .pointer (some ⟨bo, m, none⟩)) ∧ (k = 38 → v = .slice (some ⟨G, 0, none⟩) nr nr) ∧ (k = 39 → v = .int .i64 t) ∧ (k = 40 → v = .pointer (some ⟨G, t, none⟩)) ∧ (k = 41 → v = .int .i64 x) ∧ (k = 42 → v = .int .i64 (x + 1)) ∧ (k = 43 → v = .pointer (some ⟨G, t, none⟩))
structure T9 (G nr : Nat) (fm fm' : Nat → Int) (l : Nat → Bool) (f : Nat → Value) (w : World) : Prop where
  o : l 14 = true → l 12 = true
  o2 : l 12 = true → l 11 = true
  b0 : l 14 = false → w.heap[G]? = some (.cells (nums nr fm).toArray 3 (0, 0))
  b1 : l 14 = true → w.heap[G]? = some (.cells (nums nr fm').toArray 3 (0, 0))
theorem T9.soft {G nr : Nat} {fm fm' : Nat → Int} {l l' : Nat → Bool} {f f' : Nat → Value} {w w' : World} (h : T9 G nr fm fm' l f w) (hb : Below w.heap.size w w') (e14 : l' 14 = l 14) (e12 : l 12 = true → l' 12 = true) (e11 : l' 12 = true → l' 11 = true) : T9 G nr fm fm' l' f' w' :=
  ⟨fun e => e12 (h.o (by rw [← e14]; exact e)), e11, fun e => (hb.block G (Array.getElem?_eq_some_iff.1 (h.b0 (by rw [← e14]; exact e))).1).trans (h.b0 (by rw [← e14]; exact e)), fun e => (hb.block G (Array.getElem?_eq_some_iff.1 (h.b1 (by rw [← e14]; exact e))).1).trans (h.b1 (by rw [← e14]; exact e))⟩
section
variable {v30 v31 v32 v : Value} {kk b4 o4 m bo G nr t : Nat} {d x : Int} {w : World}
theorem F9.at30 : F9 v30 v31 v32 kk b4 o4 d m bo G nr t x 30 v30 w := ⟨fun _ => rfl, fun e => absurd e (by decide), fun e => absurd e (by decide), fun e => absurd e (by decide), fun e => absurd e (by decide), fun e => absurd e (by decide), fun e => absurd e (by decide), fun e => absurd e (by decide), fun e => absurd e (by decide), fun e => absurd e (by decide), fun e => absurd e (by decide), fun e => absurd e (by decide), fun e => absurd e (by decide), fun e => absurd e (by decide)⟩
theorem F9.of30 (h : F9 v30 v31 v32 kk b4 o4 d m bo G nr t x 30 v w) : v = v30 := (h.1) rfl
theorem F9.at31 : F9 v30 v31 v32 kk b4 o4 d m bo G nr t x 31 v31 w := ⟨fun e => absurd e (by decide), fun _ => rfl, fun e => absurd e (by decide), fun e => absurd e (by decide), fun e => absurd e (by decide), fun e => absurd e (by decide), fun e => absurd e (by decide), fun e => absurd e (by decide), fun e => absurd e (by decide), fun e => absurd e (by decide), fun e => absurd e (by decide), fun e => absurd e (by decide), fun e => absurd e (by decide), fun e => absurd e (by decide)⟩
theorem F9.of31 (h : F9 v30 v31 v32 kk b4 o4 d m bo G nr t x 31 v w) : v = v31 := (h.2.1) rfl
theorem F9.at32 : F9 v30 v31 v32 kk b4 o4 d m bo G nr t x 32 v32 w := ⟨fun e => absurd e (by decide), fun e => absurd e (by decide), fun _ => rfl, fun e => absurd e (by decide), fun e => absurd e (by decide), fun e => absurd e (by decide), fun e => absurd e (by decide), fun e => absurd e (by decide), fun e => absurd e (by decide), fun e => absurd e (by decide), fun e => absurd e (by decide), fun e => absurd e (by decide), fun e => absurd e (by decide), fun e => absurd e (by decide)⟩
theorem F9.of32 (h : F9 v30 v31 v32 kk b4 o4 d m bo G nr t x 32 v w) : v = v32 := (h.2.2.1) rfl
theorem F9.at33 : F9 v30 v31 v32 kk b4 o4 d m bo G nr t x 33 (.int .i64 kk) w := ⟨fun e => absurd e (by decide), fun e => absurd e (by decide), fun e => absurd e (by decide), fun _ => rfl, fun e => absurd e (by decide), fun e => absurd e (by decide), fun e => absurd e (by decide), fun e => absurd e (by decide), fun e => absurd e (by decide), fun e => absurd e (by decide), fun e => absurd e (by decide), fun e => absurd e (by decide), fun e => absurd e (by decide), fun e => absurd e (by decide)⟩
theorem F9.of33 (h : F9 v30 v31 v32 kk b4 o4 d m bo G nr t x 33 v w) : v = (.int .i64 kk) := (h.2.2.2.1) rfl
theorem F9.at34 : F9 v30 v31 v32 kk b4 o4 d m bo G nr t x 34 (.pointer (some ⟨b4, o4 + kk, none⟩)) w := ⟨fun e => absurd e (by decide), fun e => absurd e (by decide), fun e => absurd e (by decide), fun e => absurd e (by decide), fun _ => rfl, fun e => absurd e (by decide), fun e => absurd e (by decide), fun e => absurd e (by decide), fun e => absurd e (by decide), fun e => absurd e (by decide), fun e => absurd e (by decide), fun e => absurd e (by decide), fun e => absurd e (by decide), fun e => absurd e (by decide)⟩
theorem F9.of34 (h : F9 v30 v31 v32 kk b4 o4 d m bo G nr t x 34 v w) : v = (.pointer (some ⟨b4, o4 + kk, none⟩)) := (h.2.2.2.2.1) rfl
theorem F9.at35 : F9 v30 v31 v32 kk b4 o4 d m bo G nr t x 35 (.int .i64 d) w := ⟨fun e => absurd e (by decide), fun e => absurd e (by decide), fun e => absurd e (by decide), fun e => absurd e (by decide), fun e => absurd e (by decide), fun _ => rfl, fun e => absurd e (by decide), fun e => absurd e (by decide), fun e => absurd e (by decide), fun e => absurd e (by decide), fun e => absurd e (by decide), fun e => absurd e (by decide), fun e => absurd e (by decide), fun e => absurd e (by decide)⟩
theorem F9.of35 (h : F9 v30 v31 v32 kk b4 o4 d m bo G nr t x 35 v w) : v = (.int .i64 d) := (h.2.2.2.2.2.1) rfl
theorem F9.at36 : F9 v30 v31 v32 kk b4 o4 d m bo G nr t x 36 (.int .i64 m) w := ⟨fun e => absurd e (by decide), fun e => absurd e (by decide), fun e => absurd e (by decide), fun e => absurd e (by decide), fun e => absurd e (by decide), fun e => absurd e (by decide), fun _ => rfl, fun e => absurd e (by decide), fun e => absurd e (by decide), fun e => absurd e (by decide), fun e => absurd e (by decide), fun e => absurd e (by decide), fun e => absurd e (by decide), fun e => absurd e (by decide)⟩
theorem F9.of36 (h : F9 v30 v31 v32 kk b4 o4 d m bo G nr t x 36 v w) : v = (.int .i64 m) := (h.2.2.2.2.2.2.1) rfl
theorem F9.at37 : F9 v30 v31 v32 kk b4 o4 d m bo G nr t x 37 (.pointer (some ⟨bo, m, none⟩)) w := ⟨fun e => absurd e (by decide), fun e => absurd e (by decide), fun e => absurd e (by decide), fun e => absurd e (by decide), fun e => absurd e (by decide), fun e => absurd e (by decide), fun e => absurd e (by decide), fun _ => rfl, fun e => absurd e (by decide), fun e => absurd e (by decide), fun e => absurd e (by decide), fun e => absurd e (by decide), fun e => absurd e (by decide), fun e => absurd e (by decide)⟩
theorem F9.of37 (h : F9 v30 v31 v32 kk b4 o4 d m bo G nr t x 37 v w) : v = (.pointer (some ⟨bo, m, none⟩)) := (h.2.2.2.2.2.2.2.1) rfl
theorem F9.at38 : F9 v30 v31 v32 kk b4 o4 d m bo G nr t x 38 (.slice (some ⟨G, 0, none⟩) nr nr) w := ⟨fun e => absurd e (by decide), fun e => absurd e (by decide), fun e => absurd e (by decide), fun e => absurd e (by decide), fun e => absurd e (by decide), fun e => absurd e (by decide), fun e => absurd e (by decide), fun e => absurd e (by decide), fun _ => rfl, fun e => absurd e (by decide), fun e => absurd e (by decide), fun e => absurd e (by decide), fun e => absurd e (by decide), fun e => absurd e (by decide)⟩
theorem F9.of38 (h : F9 v30 v31 v32 kk b4 o4 d m bo G nr t x 38 v w) : v = (.slice (some ⟨G, 0, none⟩) nr nr) := (h.2.2.2.2.2.2.2.2.1) rfl
theorem F9.at39 : F9 v30 v31 v32 kk b4 o4 d m bo G nr t x 39 (.int .i64 t) w := ⟨fun e => absurd e (by decide), fun e => absurd e (by decide), fun e => absurd e (by decide), fun e => absurd e (by decide), fun e => absurd e (by decide), fun e => absurd e (by decide), fun e => absurd e (by decide), fun e => absurd e (by decide), fun e => absurd e (by decide), fun _ => rfl, fun e => absurd e (by decide), fun e => absurd e (by decide), fun e => absurd e (by decide), fun e => absurd e (by decide)⟩
theorem F9.of39 (h : F9 v30 v31 v32 kk b4 o4 d m bo G nr t x 39 v w) : v = (.int .i64 t) := (h.2.2.2.2.2.2.2.2.2.1) rfl
theorem F9.at40 : F9 v30 v31 v32 kk b4 o4 d m bo G nr t x 40 (.pointer (some ⟨G, t, none⟩)) w := ⟨fun e => absurd e (by decide), fun e => absurd e (by decide), fun e => absurd e (by decide), fun e => absurd e (by decide), fun e => absurd e (by decide), fun e => absurd e (by decide), fun e => absurd e (by decide), fun e => absurd e (by decide), fun e => absurd e (by decide), fun e => absurd e (by decide), fun _ => rfl, fun e => absurd e (by decide), fun e => absurd e (by decide), fun e => absurd e (by decide)⟩
theorem F9.of40 (h : F9 v30 v31 v32 kk b4 o4 d m bo G nr t x 40 v w) : v = (.pointer (some ⟨G, t, none⟩)) := (h.2.2.2.2.2.2.2.2.2.2.1) rfl
theorem F9.at41 : F9 v30 v31 v32 kk b4 o4 d m bo G nr t x 41 (.int .i64 x) w := ⟨fun e => absurd e (by decide), fun e => absurd e (by decide), fun e => absurd e (by decide), fun e => absurd e (by decide), fun e => absurd e (by decide), fun e => absurd e (by decide), fun e => absurd e (by decide), fun e => absurd e (by decide), fun e => absurd e (by decide), fun e => absurd e (by decide), fun e => absurd e (by decide), fun _ => rfl, fun e => absurd e (by decide), fun e => absurd e (by decide)⟩
theorem F9.of41 (h : F9 v30 v31 v32 kk b4 o4 d m bo G nr t x 41 v w) : v = (.int .i64 x) := (h.2.2.2.2.2.2.2.2.2.2.2.1) rfl
theorem F9.at42 : F9 v30 v31 v32 kk b4 o4 d m bo G nr t x 42 (.int .i64 (x + 1)) w := ⟨fun e => absurd e (by decide), fun e => absurd e (by decide), fun e => absurd e (by decide), fun e => absurd e (by decide), fun e => absurd e (by decide), fun e => absurd e (by decide), fun e => absurd e (by decide), fun e => absurd e (by decide), fun e => absurd e (by decide), fun e => absurd e (by decide), fun e => absurd e (by decide), fun e => absurd e (by decide), fun _ => rfl, fun e => absurd e (by decide)⟩
theorem F9.of42 (h : F9 v30 v31 v32 kk b4 o4 d m bo G nr t x 42 v w) : v = (.int .i64 (x + 1)) := (h.2.2.2.2.2.2.2.2.2.2.2.2.1) rfl
theorem F9.at43 : F9 v30 v31 v32 kk b4 o4 d m bo G nr t x 43 (.pointer (some ⟨G, t, none⟩)) w := ⟨fun e => absurd e (by decide), fun e => absurd e (by decide), fun e => absurd e (by decide), fun e => absurd e (by decide), fun e => absurd e (by decide), fun e => absurd e (by decide), fun e => absurd e (by decide), fun e => absurd e (by decide), fun e => absurd e (by decide), fun e => absurd e (by decide), fun e => absurd e (by decide), fun e => absurd e (by decide), fun e => absurd e (by decide), fun _ => rfl⟩
theorem F9.of43 (h : F9 v30 v31 v32 kk b4 o4 d m bo G nr t x 43 v w) : v = (.pointer (some ⟨G, t, none⟩)) := (h.2.2.2.2.2.2.2.2.2.2.2.2.2) rfl
end

theorem load_ok {c : Cal} {ts ds ask : List Int} (h : loadE c ts ds ask = 0) : ts.length = ds.length ∧ ts.length ≤ 24 ∧ (∀ k (hk : k < ts.length), 0 ≤ ts[k] ∧ ts[k] < (c.room.length : Int)) ∧ ∀ k (hk : k < ts.length) (hk2 : k < ds.length), mayF c ts[k] ds[k] = true := by
  unfold loadE at h
  rw [if_neg (by rw [loadE_zero h]; simp)] at h
  by_cases h1 : ts.length = ds.length
  · rw [if_neg (by rw [h1]; simp)] at h
    by_cases h2 : 24 < ts.length
    · rw [if_pos h2] at h; cases h
    · rw [if_neg h2] at h
      cases h3 : rangeB c (ts ++ ask) with
      | false => rw [if_pos h3] at h; cases h
      | true =>
        rw [if_neg (by rw [h3]; simp)] at h
        cases h4 : mayB c (ts.zip ds) with
        | false => rw [if_pos h4] at h; cases h
        | true =>
          refine ⟨h1, by omega, fun k hk => ?_, fun k hk hk2 => ?_⟩
          · unfold rangeB at h3
            rw [List.all_eq_true] at h3
            have := h3 ts[k] (List.mem_append_left _ (List.getElem_mem hk))
            unfold inB at this
            simp at this
            omega
          · unfold mayB at h4
            rw [List.all_eq_true] at h4
            have h5 := h4 ((ts.zip ds)[k]'(by rw [List.length_zip]; omega)) (List.getElem_mem _)
            rw [zip_at hk hk2] at h5
            exact h5
  · rw [if_pos h1] at h; cases h
theorem Out2.counted {s nr : Nat} {w w' : World} {v : Value} {gs : List Nat} {F : Nat → Nat → Int} (h : Out2 s w v gs nr F) {m : Nat} (hm : m < gs.length) (he : E9 gs[m] w w') {f' : Nat → Int} (hb : w'.heap[gs[m]]? = some (.cells (nums nr f').toArray 3 (0, 0))) : Out2 s w' v gs nr (fun j k => if j = m then f' k else F j k) := by
  have hr := h.rows m hm
  have hg : w.grownBy w' (some gs[m]) := ⟨he.os, he.tape, he.output, he.size, fun k h1 h2 => he.block k h1 (fun e => h2 (by rw [e]))⟩
  refine ⟨World.ownsRow.kept h.own hg (.inr (own_ne h.own hr (by decide))), fun j hj => ?_, h.ge, h.nodup⟩
  by_cases e : j = m
  · subst e
    simpa using hb
  · have hne : gs[j] ≠ gs[m] := fun e2 => by
      have hp := List.pairwise_iff_getElem.1 h.nodup
      rcases Nat.lt_or_gt_of_ne e with e3 | e3
      · exact hp j m hj hm e3 e2
      · exact hp m j hm hj e3 e2.symm
    rw [he.block _ (Array.getElem?_eq_some_iff.1 (h.rows j hj)).1 hne, h.rows j hj]
    simp [e]

def RLoadOut (c : Cal) (ts ds : List Int) (w : World) (e : Ending) (w' : World) : Prop :=
  ∃ (v : Value) (s : Nat) (gs : List Nat) (F : Nat → Nat → Int), e = .returned v ∧ w.heap.size ≤ s ∧ Out2 s w' v gs c.room.length F ∧ gs.length = c.wins.length ∧ (∀ i t, t < c.room.length → F i t = loadN c (ts.zip ds) (i * 8 + t)) ∧ Below w.heap.size w w'

set_option maxRecDepth 100000 in
set_option maxHeartbeats 8000000 in
theorem rload_any (c : Cal) (v1 v2 : Value) (ts ds : List Int) (w : World) (h : CalAt w c) (h1 : IntsAt w v1 ts) (h2 : IntsAt w v2 ds) (h0 : loadE c ts ds [] = 0) :
    Calls Try.prog 56 #[c.val, v1, v2] w fun e w' => RLoadOut c ts ds w e w' := by
  have HAT := Lib.hid (fun (d : Int) W (hW : CalAt W c) => rat_any c d W hW)
  obtain ⟨wa, wc, ta, tc, ra, rc, hS⟩ := h.shape
  have HS := Lib.hid hS
  have H0 := Lib.hid (hS.box h)
  rw [hS.val] at HAT ⊢
  obtain ⟨a1, m1, rfl⟩ := h1.form
  obtain ⟨a2, m2, rfl⟩ := h2.form
  have H1 := Lib.hid h1
  have H2 := Lib.hid h2
  have hl1 := h1.1
  have hl2 := h2.1
  have HOK := Lib.hid (ok0_of (loadE_zero h0))
  have HE := Lib.hid (load_ok h0)
  have HC := Lib.hid h
  have hw32 := HOK.out.wins
  have hr8 := HOK.out.room
  clear h hS h1 h2 h0
  have hd := HS.out.cells H0.out
  obtain ⟨Z, hZ⟩ : ∃ Z, Z = (nums c.room.length fun _ => 0).toArray := ⟨_, rfl⟩
  have hmk : ∀ W : World, (Instr.makeSlice 22 (.int .i64 (c.room.length : Int)) (.int .i64 (c.room.length : Int))).run Try.prog W = .ok (.slice (some ⟨W.heap.size, 0, none⟩) c.room.length c.room.length) (W.alloc (.cells Z 3)) := fun W => by
    rw [hZ]; exact run_make_ints W _ (by omega)
  have HZ := Lib.hid hZ
  clear hZ
  go_enter Try.func56, Try.ntmps56
  go_wp2_with fail
  clear hd
  generalize w.alloc (.cells #[.slice wa c.wins.length wc, .slice ta c.team.length tc, .slice ra c.room.length rc] 25) = W0 at *
  go_loopg [7, 13] c.wins.length (fun gg s7 s13 wr => ∃ gs : List Nat, gs.length ≤ c.wins.length ∧ c.wins.length - gs.length ≤ gg ∧ s13 = .int .i64 gs.length ∧ Aside (Below W0.heap.size W0 wr) ∧ Aside (Out2 W0.heap.size wr s7 gs c.room.length fun _ _ => 0))
  case atStart => exact ⟨[], Nat.zero_le _, by simp, rfl, Below.refl _ _, Out2.nil _ _ _ _⟩
  case round =>
    obtain ⟨gs, hkk, hg, rfl, BW, O⟩ := hrel
    by_cases hlt : gs.length < c.wins.length
    · have hltz : (gs.length : Int) < (c.wins.length : Int) := by omega
      have hd := HS.out.cells (H0.out.later BW.out)
      have hx := O.out.more 45 BW.out.size (by omega)
      rw [← HZ.out] at hx
      have X1 := Lib.hid hx
      clear hx
      go_wp2_with (at_builtin; refine wl_app2 rfl _ _ rfl rfl rfl X1.out ?_; intro v1 w1 R2)
      have BW2 := Lib.hid (BW.out.trans R2.2)
      have O2 := Lib.hid R2.1
      clear R2
      go_roundg (c.wins.length - (gs.length + 1))
      case measure => omega
      case rel => exact ⟨gs ++ [wr.heap.size], by simp; omega, by simp, by simp only [List.length_append, List.length_cons, List.length_nil]; go_num, BW2.out, O2.out⟩
    · have hltz : ¬ (gs.length : Int) < (c.wins.length : Int) := by omega
      have HG := Lib.hid (show gs.length = c.wins.length by omega)
      go_wp2_with fail
      have h24 := HE.out.2.1
      go_loopg [25] ts.length (fun gg s25 wx => ∃ (kk : Nat) (F : Nat → Nat → Int), kk ≤ ts.length ∧ ts.length - kk ≤ gg ∧ s25 = .int .i64 kk ∧ Aside (Below W0.heap.size W0 wx) ∧ Aside (Out2 W0.heap.size wx u7 gs c.room.length F) ∧ Aside (∀ i t, t < c.room.length → F i t = loadN c ((ts.zip ds).take kk) (i * 8 + t)))
      case atStart => exact ⟨0, fun _ _ => 0, Nat.zero_le _, by omega, rfl, BW.out, O.out, fun i t _ => rfl⟩
      case round =>
        obtain ⟨kk, F, hkk, hg2, rfl, BW2, O2, A⟩ := hrel
        by_cases hlt2 : kk < ts.length
        · have hltz2 : (kk : Int) < (ts.length : Int) := by omega
          have hk2 : kk < ds.length := by have := HE.out.1; omega
          have hltz3 : (kk : Int) < (ds.length : Int) := by omega
          obtain ⟨t, htt⟩ : ∃ t : Nat, ts[kk] = (t : Int) := ⟨ts[kk].toNat, by have := HE.out.2.2.1 kk hlt2; omega⟩
          have htn : t < c.room.length := by have := HE.out.2.2.1 kk hlt2; omega
          obtain ⟨d, hdd⟩ : ∃ d, d = ds[kk] := ⟨_, rfl⟩
          have hmay := HE.out.2.2.2 kk hlt2 hk2
          rw [htt, ← hdd] at hmay
          obtain ⟨m, hm, ea⟩ : ∃ m, ∃ hm : m < c.wins.length, atF c d = (m : Int) := by
            rcases at_spec c t d with ⟨_, e2⟩ | ⟨m, hm, ea, _⟩
            · rw [e2] at hmay; cases hmay
            · exact ⟨m, hm, ea⟩
          have hmg : m < gs.length := by have := HG.out; omega
          have hmz : (m : Int) < (gs.length : Int) := by omega
          have htz : (t : Int) < (c.room.length : Int) := by omega
          have HSL := Lib.hid (show slotOf c (ts[kk], ds[kk]) = ((m * 8 + t : Nat) : Int) by unfold slotOf; rw [htt, ← hdd, ea]; omega)
          have hx24 := loadN_le c ((ts.zip ds).take kk) (m * 8 + t)
          have hxe := A.out m t htn
          rw [← hxe] at hx24
          have hlen24 : ((ts.zip ds).take kk).length ≤ 24 := by rw [List.length_take, List.length_zip]; omega
          have hwr : IntKind.i64.wrap (F m t + 1) = F m t + 1 := IntWalk.i64_in _ (by omega)
          have HREL := Lib.hid (show ∀ i t', t' < c.room.length → (fun j k => if j = m then (fun k => if k = t then F m t + 1 else F m k) k else F j k) i t' = loadN c ((ts.zip ds).take (kk + 1)) (i * 8 + t') from fun i t' ht' => by
            rw [zip_take_snoc hlt2 hk2, loadN_snoc, HSL.out]
            have hr8' := HOK.out.room
            by_cases e : i = m
            · subst e
              by_cases e2 : t' = t
              · subst e2
                simp only [if_true]
                rw [hxe]
              · simp only [if_true, if_neg e2]
                rw [if_neg (by omega)]
                exact A.out i t' ht'
            · simp only [if_neg e]
              rw [if_neg (by omega)]
              exact A.out i t' ht')
          obtain ⟨b3, o3, rfl, hb3, hc3⟩ := H1.out.cellAt hlt2
          obtain ⟨b4, o4, rfl, hb4, hc4⟩ := H2.out.cellAt hk2
          rw [← hdd] at hc4
          rw [htt] at hc3
          have hww : w.heap.size < W0.heap.size := H0.out.hB
          have hBW := H0.out.below.trans (BW2.out.mono (by omega))
          have hc3' := (hBW.cell (p := ⟨b3, o3 + kk, none⟩) hb3).trans hc3
          obtain ⟨bo, capo, ho, hbo1, hbo2, hbo3, hco⟩ := O2.out.row hmg
          have hGs := O2.out.ge gs[m] (List.getElem_mem hmg)
          have hGr := O2.out.rows m hmg
          have O3 := Lib.hid (fun (W : World) (f' : Nat → Int) (hE : E9 gs[m] wr W) => O2.out.counted hmg hE (f' := f'))
          generalize hGe : gs[m] = G at *
          clear hGe
          have hGw := (Array.getElem?_eq_some_iff.1 hGr).1
          have HBE := Lib.hid (fun (W : World) (hE : E9 G wr.drew W) => show Below W0.heap.size W0 W from BW2.out.trans ⟨hE.os, hE.tape, hE.output, hE.size, fun k hk => hE.block k (Nat.lt_of_lt_of_le hk BW2.out.size) (by omega)⟩)
          have HCELL := Lib.hid (fun (W : World) (hE : E9 G wr.drew W) => HS.out.cells (H0.out.later (HBE.out W hE)))
          have HDAY := Lib.hid (fun (W : World) (hE : E9 G wr.drew W) => show W.cell? ⟨b4, o4 + kk, none⟩ = some (.int .i64 d) from ((H0.out.below.trans ((HBE.out W hE).mono (by omega))).cell (p := ⟨b4, o4 + kk, none⟩) hb4).trans hc4)
          have HROW := Lib.hid (fun (W : World) (hE : E9 G wr.drew W) => show W.cell? ⟨bo, m, none⟩ = some (.slice (some ⟨G, 0, none⟩) c.room.length c.room.length) from (hE.cell (x := ⟨bo, m, none⟩) hbo2 hbo3).trans hco)
          have HATM := Lib.hid (fun (W : World) (hE : E9 G wr.drew W) => show Calls Try.prog 45 #[.agg #[.slice wa c.wins.length wc, .slice ta c.team.length tc, .slice ra c.room.length rc], .int .i64 d] W fun e w' => e = .returned (.int .i64 m) ∧ Below W.heap.size W w' from by
            have := HAT.out d W (H0.out.later (HBE.out W hE)).cal
            rw [ea] at this
            exact this)
          have HX := Lib.hid (show (nums c.room.length (F m)).toArray[t]? = some (.int .i64 (F m t)) by rw [List.getElem?_toArray]; exact nums_get _ _ _ htn)
          generalize hfm : F m = fm at *
          generalize hxx : fm t = x at *
          clear hxx hfm hxe hx24 hlen24 hdd htt ea hc3 hc4 hco hmay
          subst ho
          go_wp2_with fail
          refine wp_named fun a0 ha0 => ?_
          have z0 : a0.tmps.size = 46 := by rw [ha0]; rfl
          have hlt := lt_of_all (ds := [30, 31, 32, 33, 34, 35, 36, 37, 38, 39, 40, 41, 42, 43]) (n := a0.tmps.size) (by rw [z0]; rfl)
          have e2 : (a0.tmps[2]?).getD undef = .slice (some ⟨b4, o4, none⟩) ds.length m2 := by rw [ha0]; rfl
          have e3 : (a0.tmps[3]?).getD undef = .pointer (some ⟨w.heap.size, 0, none⟩) := by rw [ha0]; rfl
          have e7 : (a0.tmps[7]?).getD undef = .slice (some ⟨bo, 0, none⟩) gs.length capo := by rw [ha0]; rfl
          have e8 : (a0.tmps[8]?).getD undef = .int .i64 kk := by rw [ha0]; rfl
          have e9 : (a0.tmps[9]?).getD undef = .int .i64 t := by rw [ha0]; rfl
          have HA := Lib.hid ha0
          clear ha0
          have hvo : ∀ f k, k ∉ [30, 31, 32, 33, 34, 35, 36, 37, 38, 39, 40, 41, 42, 43] → ((fr a0 [30, 31, 32, 33, 34, 35, 36, 37, 38, 39, 40, 41, 42, 43] f).tmps[k]?).getD undef = (a0.tmps[k]?).getD undef := fun f k hk => fr_at_out hk hlt
          have hvi : ∀ f k, k ∈ [30, 31, 32, 33, 34, 35, 36, 37, 38, 39, 40, 41, 42, 43] → ((fr a0 [30, 31, 32, 33, 34, 35, 36, 37, 38, 39, 40, 41, 42, 43] f).tmps[k]?).getD undef = f k := fun f k hk => fr_at_in hk hlt
          refine region_list [30, 31, 32, 33, 34, 35, 36, 37, 38, 39, 40, 41, 42, 43] (E9 G) (F9 (.slice (some ⟨bo, 0, none⟩) gs.length capo) (.agg #[.slice wa c.wins.length wc, .slice ta c.team.length tc, .slice ra c.room.length rc]) (.slice (some ⟨b4, o4, none⟩) ds.length m2) kk b4 o4 d m bo G c.room.length t x) (T9 G c.room.length fm (fun k => if k = t then x + 1 else fm k)) rfl (by kernel_rfl) (by kernel_rfl) (by kernel_rfl) hlt (fun _ _ _ h1 h2 => h1.trans h2) (fun _ _ _ _ h1 _ => h1) (E9.refl _ _) ?_ ?_ ?_
          · exact ⟨(fun h => by cases h), (fun h => by cases h), fun _ => hGr, (fun h => by cases h)⟩
          · intro k f W hk hE hT hF
            have O4 := Lib.hid (O3.out W _ (⟨hE.os, hE.tape, hE.output, hE.size, hE.block⟩ : E9 G wr W) (hT.b1 (hk 14 (by decide))))
            have BW4 := Lib.hid (HBE.out W hE)
            clear hk hE hT hF hvo hvi e2 e3 e7 e8 e9
            have hA := HA.out
            subst hA
            simp only [fr]
            generalize f 30 = f30 at *
            generalize f 31 = f31 at *
            generalize f 32 = f32 at *
            generalize f 33 = f33 at *
            generalize f 34 = f34 at *
            generalize f 35 = f35 at *
            generalize f 36 = f36 at *
            generalize f 37 = f37 at *
            generalize f 38 = f38 at *
            generalize f 39 = f39 at *
            generalize f 40 = f40 at *
            generalize f 41 = f41 at *
            generalize f 42 = f42 at *
            generalize f 43 = f43 at *
            go_wp2_with fail
            go_roundg (ts.length - (kk + 1))
            case measure => omega
            case rel => exact ⟨kk + 1, _, by omega, by omega, by go_num, BW4.out, O4.out, HREL.out⟩
          · refine ⟨?_, ?_, ?_, ?_, ?_, ?_, ?_, ?_, ?_, ?_, ?_, ?_, ?_, ?_, ?_, trivial⟩
            · refine step_val 30 rfl ?_
              intro l f W hE hT hl hd hF
              refine ⟨.slice (some ⟨bo, 0, none⟩) gs.length capo, W, ?_, E9.refl _ _, hT.soft (Below.refl _ _) rfl (fun h => h) (fun h => hT.o2 h), F9.at30⟩
              have hv := (hvo f 7 (by decide)).trans e7
              clear hvo hvi hF hd hT hE
              generalize fr a0 [30, 31, 32, 33, 34, 35, 36, 37, 38, 39, 40, 41, 42, 43] f = A at *
              go_simp
            · refine step_val 31 rfl ?_
              intro l f W hE hT hl hd hF
              refine ⟨.agg #[.slice wa c.wins.length wc, .slice ta c.team.length tc, .slice ra c.room.length rc], W, ?_, E9.refl _ _, hT.soft (Below.refl _ _) rfl (fun h => h) (fun h => hT.o2 h), F9.at31⟩
              have hv := (hvo f 3 (by decide)).trans e3
              obtain ⟨c0, c1, c2⟩ := HCELL.out W hE
              clear hvo hvi hF hd hT hE
              generalize fr a0 [30, 31, 32, 33, 34, 35, 36, 37, 38, 39, 40, 41, 42, 43] f = A at *
              go_simp
            · refine step_val 32 rfl ?_
              intro l f W hE hT hl hd hF
              refine ⟨.slice (some ⟨b4, o4, none⟩) ds.length m2, W, ?_, E9.refl _ _, hT.soft (Below.refl _ _) rfl (fun h => h) (fun h => hT.o2 h), F9.at32⟩
              have hv := (hvo f 2 (by decide)).trans e2
              clear hvo hvi hF hd hT hE
              generalize fr a0 [30, 31, 32, 33, 34, 35, 36, 37, 38, 39, 40, 41, 42, 43] f = A at *
              go_simp
            · refine step_val 33 rfl ?_
              intro l f W hE hT hl hd hF
              refine ⟨.int .i64 kk, W, ?_, E9.refl _ _, hT.soft (Below.refl _ _) rfl (fun h => h) (fun h => hT.o2 h), F9.at33⟩
              have hv := (hvo f 8 (by decide)).trans e8
              clear hvo hvi hF hd hT hE
              generalize fr a0 [30, 31, 32, 33, 34, 35, 36, 37, 38, 39, 40, 41, 42, 43] f = A at *
              go_simp
            · refine step_val 34 rfl ?_
              intro l f W hE hT hl hd hF
              refine ⟨.pointer (some ⟨b4, o4 + kk, none⟩), W, ?_, E9.refl _ _, hT.soft (Below.refl _ _) rfl (fun h => h) (fun h => hT.o2 h), F9.at34⟩
              have hv := (hvi f 32 (by decide)).trans (hF 2 32 rfl (dep hd 0 ⟨2, .data⟩ rfl rfl)).of32
              have hv2 := (hvi f 33 (by decide)).trans (hF 3 33 rfl (dep hd 1 ⟨3, .data⟩ rfl rfl)).of33
              clear hvo hvi hF hd hT hE
              generalize fr a0 [30, 31, 32, 33, 34, 35, 36, 37, 38, 39, 40, 41, 42, 43] f = A at *
              go_simp
            · refine step_val 35 rfl ?_
              intro l f W hE hT hl hd hF
              refine ⟨.int .i64 d, W, ?_, E9.refl _ _, hT.soft (Below.refl _ _) rfl (fun h => h) (fun h => hT.o2 h), F9.at35⟩
              have hv := (hvi f 34 (by decide)).trans (hF 4 34 rfl (dep hd 0 ⟨4, .data⟩ rfl rfl)).of34
              have hc := HDAY.out W hE
              clear hvo hvi hF hd hT hE
              generalize fr a0 [30, 31, 32, 33, 34, 35, 36, 37, 38, 39, 40, 41, 42, 43] f = A at *
              go_simp
            · refine step_call 36 rfl (g := 45) ?_
              intro l f W hE hT hl hd hF
              refine ⟨#[.agg #[.slice wa c.wins.length wc, .slice ta c.team.length tc, .slice ra c.room.length rc], .int .i64 d], ?_, ?_⟩
              · have hv := (hvi f 31 (by decide)).trans (hF 1 31 rfl (dep hd 0 ⟨1, .data⟩ rfl rfl)).of31
                have hv2 := (hvi f 35 (by decide)).trans (hF 5 35 rfl (dep hd 1 ⟨5, .data⟩ rfl rfl)).of35
                clear hvo hvi hF hd hT hE
                generalize fr a0 [30, 31, 32, 33, 34, 35, 36, 37, 38, 39, 40, 41, 42, 43] f = A at *
                go_simp
              · refine (HATM.out W hE).mono ?_
                rintro e W' ⟨rfl, hb⟩
                exact ⟨_, rfl, E9.of hb, hT.soft hb rfl (fun h => h) (fun h => hT.o2 h), F9.at36⟩
            · refine step_val 37 rfl ?_
              intro l f W hE hT hl hd hF
              refine ⟨.pointer (some ⟨bo, m, none⟩), W, ?_, E9.refl _ _, hT.soft (Below.refl _ _) rfl (fun h => h) (fun h => hT.o2 h), F9.at37⟩
              have hv := (hvi f 30 (by decide)).trans (hF 0 30 rfl (dep hd 0 ⟨0, .data⟩ rfl rfl)).of30
              have hv2 := (hvi f 36 (by decide)).trans (hF 6 36 rfl (dep hd 1 ⟨6, .data⟩ rfl rfl)).of36
              clear hvo hvi hF hd hT hE
              generalize fr a0 [30, 31, 32, 33, 34, 35, 36, 37, 38, 39, 40, 41, 42, 43] f = A at *
              go_simp
            · refine step_val 38 rfl ?_
              intro l f W hE hT hl hd hF
              refine ⟨.slice (some ⟨G, 0, none⟩) c.room.length c.room.length, W, ?_, E9.refl _ _, hT.soft (Below.refl _ _) rfl (fun h => h) (fun h => hT.o2 h), F9.at38⟩
              have hv := (hvi f 37 (by decide)).trans (hF 7 37 rfl (dep hd 0 ⟨7, .data⟩ rfl rfl)).of37
              have hc := HROW.out W hE
              clear hvo hvi hF hd hT hE
              generalize fr a0 [30, 31, 32, 33, 34, 35, 36, 37, 38, 39, 40, 41, 42, 43] f = A at *
              go_simp
            · refine step_val 39 rfl ?_
              intro l f W hE hT hl hd hF
              refine ⟨.int .i64 t, W, ?_, E9.refl _ _, hT.soft (Below.refl _ _) rfl (fun h => h) (fun h => hT.o2 h), F9.at39⟩
              have hv := (hvo f 9 (by decide)).trans e9
              clear hvo hvi hF hd hT hE
              generalize fr a0 [30, 31, 32, 33, 34, 35, 36, 37, 38, 39, 40, 41, 42, 43] f = A at *
              go_simp
            · refine step_val 40 rfl ?_
              intro l f W hE hT hl hd hF
              refine ⟨.pointer (some ⟨G, t, none⟩), W, ?_, E9.refl _ _, hT.soft (Below.refl _ _) rfl (fun h => h) (fun h => hT.o2 h), F9.at40⟩
              have hv := (hvi f 38 (by decide)).trans (hF 8 38 rfl (dep hd 0 ⟨8, .data⟩ rfl rfl)).of38
              have hv2 := (hvi f 39 (by decide)).trans (hF 9 39 rfl (dep hd 1 ⟨9, .data⟩ rfl rfl)).of39
              clear hvo hvi hF hd hT hE
              generalize fr a0 [30, 31, 32, 33, 34, 35, 36, 37, 38, 39, 40, 41, 42, 43] f = A at *
              go_simp
            · refine step_val 41 rfl ?_
              intro l f W hE hT hl hd hF
              have h14 : l 14 = false := by cases h : l 14 with | false => rfl | true => rw [hT.o2 (hT.o h)] at hl; cases hl
              refine ⟨.int .i64 x, W, ?_, E9.refl _ _, hT.soft (Below.refl _ _) rfl (fun h => h) (fun _ => rfl), F9.at41⟩
              have hv := (hvi f 40 (by decide)).trans (hF 10 40 rfl (dep hd 0 ⟨10, .data⟩ rfl rfl)).of40
              have hc := (heap_cell (hT.b0 h14) t).trans HX.out
              clear hvo hvi hF hd hT hE
              generalize fr a0 [30, 31, 32, 33, 34, 35, 36, 37, 38, 39, 40, 41, 42, 43] f = A at *
              go_simp
            · refine step_val 42 rfl ?_
              intro l f W hE hT hl hd hF
              refine ⟨.int .i64 (x + 1), W, ?_, E9.refl _ _, hT.soft (Below.refl _ _) rfl (fun _ => rfl) (fun _ => dep hd 0 ⟨11, .data⟩ rfl rfl), F9.at42⟩
              have hv := (hvi f 41 (by decide)).trans (hF 11 41 rfl (dep hd 0 ⟨11, .data⟩ rfl rfl)).of41
              clear hvo hvi hF hd hT hE
              generalize fr a0 [30, 31, 32, 33, 34, 35, 36, 37, 38, 39, 40, 41, 42, 43] f = A at *
              go_simp
            · refine step_val 43 rfl ?_
              intro l f W hE hT hl hd hF
              refine ⟨.pointer (some ⟨G, t, none⟩), W, ?_, E9.refl _ _, hT.soft (Below.refl _ _) rfl (fun h => h) (fun h => hT.o2 h), F9.at43⟩
              have hv := (hvi f 38 (by decide)).trans (hF 8 38 rfl (dep hd 0 ⟨8, .data⟩ rfl rfl)).of38
              have hv2 := (hvi f 39 (by decide)).trans (hF 9 39 rfl (dep hd 1 ⟨9, .data⟩ rfl rfl)).of39
              clear hvo hvi hF hd hT hE
              generalize fr a0 [30, 31, 32, 33, 34, 35, 36, 37, 38, 39, 40, 41, 42, 43] f = A at *
              go_simp
            · refine step_skip rfl ?_
              intro l f W hE hT hl hd hF
              have hB := hT.b0 hl
              have h12 : l 12 = true := dep hd 1 ⟨12, .data⟩ rfl rfl
              have he : E9 G W (W.setCell ⟨G, t, none⟩ (.int .i64 (x + 1))) := ⟨rfl, rfl, rfl, by simp, fun k h1 h2 => Below.heap_setCell _ _ _ _ h2⟩
              refine ⟨W.setCell ⟨G, t, none⟩ (.int .i64 (x + 1)), ?_, he, ⟨fun _ => h12, fun h => hT.o2 h, (fun h => by cases h), fun _ => ?_⟩⟩
              · have hv := (hvi f 43 (by decide)).trans (hF 13 43 rfl (dep hd 0 ⟨13, .data⟩ rfl rfl)).of43
                have hv2 := (hvi f 42 (by decide)).trans (hF 12 42 rfl h12).of42
                have hc := (heap_cell hB t).trans HX.out
                have hz := heap_free hB t
                clear hvo hvi hF hd hT hE he
                generalize fr a0 [30, 31, 32, 33, 34, 35, 36, 37, 38, 39, 40, 41, 42, 43] f = A at *
                go_simp
              · rw [heap_set hB t _, nums_set c.room.length fm t (x + 1) htn]
        · have hltz2 : ¬ (kk : Int) < (ts.length : Int) := by omega
          have htk : (ts.zip ds).take kk = ts.zip ds := List.take_of_length_le (by rw [List.length_zip]; have := HE.out.1; omega)
          rw [htk] at A
          have HBF := Lib.hid (H0.out.below.trans (BW2.out.mono (by have := H0.out.hB; omega)))
          have HW0 := Lib.hid (show w.heap.size ≤ W0.heap.size by have := H0.out.hB; omega)
          go_wp2_with fail
          go_ret
          exact ⟨_, _, gs, F, rfl, HW0.out, O2.out, HG.out, A.out, HBF.out⟩
end Go.Proofs.Ytpbahffkhpfakaa


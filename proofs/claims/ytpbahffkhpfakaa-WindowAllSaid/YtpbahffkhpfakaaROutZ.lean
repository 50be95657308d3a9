import Derived.Test.YtpbahffkhpfakaaRFitZ
import Derived.Laws.MakeOwn
namespace Go.Proofs.Ytpbahffkhpfakaa
open Go.RowKit
set_option linter.unusedSimpArgs false
set_option linter.unusedVariables false

/-! ## Rows of counts, each in a block of its own -/

theorem undRows : Try.prog.underlying 45 = some (.slice 22) := by kernel_rfl
theorem infoRow : (Try.prog.info? 22).map (fun i => (i.zero, i.size, i.bytes)) = some (some (.slice none 0 0), 1, 24) := by kernel_rfl
theorem made_ints (n : Nat) : madeCells #[Value.int .i64 0] (n * 1) = (nums n fun _ => 0).toArray := by
  apply Array.ext
  · simp [madeCells, nums]
  · intro i h1 h2
    simp [madeCells, nums, Nat.mod_one]
theorem run_make_ints (W : World) (n : Nat) (hn : n ≤ 1000) : (Instr.makeSlice 22 (.int .i64 n) (.int .i64 n)).run Try.prog W = .ok (.slice (some ⟨W.heap.size, 0, none⟩) n n) (W.alloc (.cells (nums n fun _ => 0).toArray 3)) := by
  have hi := infoInt
  cases hq : Try.prog.info? 3 with
  | none => simp [hq] at hi
  | some i =>
    rw [hq] at hi
    simp only [Option.map_some, Option.some.injEq, Prod.mk.injEq] at hi
    obtain ⟨hz, hsz, hby⟩ := hi
    have h := run_make (P := Try.prog) W 22 3 i (.int .i64 0) undInts hq hz .i64 .i64 n n (by omega) (by omega) (by rw [hby]; omega) (by omega)
    rw [hsz] at h
    simp only [Int.toNat_natCast] at h
    rw [h, ← made_ints n]
    rfl

def rowV (nr g : Nat) : Value := .slice (some ⟨g, 0, none⟩) nr nr
structure Out2 (s : Nat) (w : World) (v : Value) (gs : List Nat) (nr : Nat) (F : Nat → Nat → Int) : Prop where
  own : w.ownsRow s 22 1 v gs.length (gs.map (rowV nr))
  rows : ∀ i (h : i < gs.length), w.heap[gs[i]]? = some (.cells (nums nr (F i)).toArray 3 (0, 0))
  ge : ∀ g ∈ gs, s ≤ g
  nodup : gs.Nodup
section
variable {s nr : Nat} {w w' : World} {v : Value} {gs : List Nat} {F : Nat → Nat → Int}
theorem Out2.below (h : Out2 s w v gs nr F) (hb : Below w.heap.size w w') : Out2 s w' v gs nr F := by
  have hg : w.grownBy w' none := ⟨hb.os, hb.tape, hb.output, hb.size, fun k hk _ => hb.block k hk⟩
  exact ⟨World.ownsRow.kept h.own hg (Classical.em _), fun i hi => (hb.block _ (Array.getElem?_eq_some_iff.1 (h.rows i hi)).1).trans (h.rows i hi), h.ge, h.nodup⟩
theorem Out2.nil (s : Nat) (w : World) (nr : Nat) (F : Nat → Nat → Int) : Out2 s w (.slice none 0 0) [] nr F := ⟨World.ownsRow_nil _ _ _ _, fun i h => by simp at h, fun g h => by simp at h, List.nodup_nil⟩
theorem Out2.row (h : Out2 s w v gs nr F) {i : Nat} (hi : i < gs.length) : ∃ b cap, v = .slice (some ⟨b, 0, none⟩) gs.length cap ∧ s ≤ b ∧ b < w.heap.size ∧ b ≠ gs[i] ∧ w.cell? ⟨b, i, none⟩ = some (rowV nr gs[i]) := by
  rcases h.own.2 with ⟨e, h0⟩ | ⟨g, cap, cur, e, hb, hg, h3⟩
  · omega
  · refine ⟨g, cap, e, hb, (Array.getElem?_eq_some_iff.1 hg).1, fun e2 => ?_, ?_⟩
    · have := h.rows i hi
      rw [← e2, hg] at this
      simp only [Option.some.injEq, Obj.cells.injEq] at this
      exact absurd this.2.1 (by decide)
    · have hc := World.ownsRow.cells h.own (g := g) (by rw [e]; rfl) i (rowV nr gs[i]) (by simp [hi])
      have hp' : (⟨g, 0, none⟩ : Addr).add i = ⟨g, 0 + i, none⟩ := by unfold Addr.add; split <;> simp_all
      rw [hp', Nat.zero_add] at hc
      exact hc
/-- one row more -/
theorem Out2.more (h : Out2 s w v gs nr fun _ _ => 0) (ty : TypeId) (hs : s ≤ w.heap.size) (hl : gs.length ≤ 100) :
    ∃ v' w', (Builtin.append_ #[45, 45] ty #[v, .slice (some ⟨w.heap.size + 1, 0, none⟩) 1 1]).run Try.prog ((w.alloc (.cells (nums nr fun _ => 0).toArray 3)).alloc (.cells #[rowV nr w.heap.size] 22)) = .ok v' w' ∧ Out2 s w' v' (gs ++ [w.heap.size]) nr (fun _ _ => 0) ∧ Below s w w' := by
  have hi := infoRow
  cases hq : Try.prog.info? 22 with
  | none => simp [hq] at hi
  | some i =>
    rw [hq] at hi
    simp only [Option.map_some, Option.some.injEq, Prod.mk.injEq] at hi
    obtain ⟨hz, hsz, hby⟩ := hi
    have b1 := Below.alloc1 w (.cells (nums nr fun _ => 0).toArray 3)
    have s1 : (w.alloc (.cells (nums nr fun _ => 0).toArray 3)).heap.size = w.heap.size + 1 := by simp
    have n1 := heap_new w (.cells (nums nr fun _ => 0).toArray 3 (0, 0))
    have h1 := h.below b1
    generalize w.alloc (.cells (nums nr fun _ => 0).toArray 3) = w1 at *
    have b2 := Below.alloc1 w1 (.cells #[rowV nr w.heap.size] 22)
    have c2 : (w1.alloc (.cells #[rowV nr w.heap.size] 22)).cell? ⟨w.heap.size + 1, 0, none⟩ = some (rowV nr w.heap.size) := by rw [← s1]; exact World.cell?_alloc_at _ _ _ _ rfl
    have h2 := h1.below b2
    have n2 := (b2.block w.heap.size (by omega)).trans n1
    have s2 : (w1.alloc (.cells #[rowV nr w.heap.size] 22)).heap.size = w.heap.size + 1 + 1 := by simp [s1]
    generalize w1.alloc (.cells #[rowV nr w.heap.size] 22) = w2 at *
    obtain ⟨v', w', k1, k2, k3, _⟩ := run_append_own (P := Try.prog) w2 s 45 ty 22 i (.slice none 0 0) 1 24 undRows hq hz hsz hby rfl (by decide) v gs.length (gs.map (rowV nr)) h2.own ⟨w.heap.size + 1, 0, none⟩ 1 1 [rowV nr w.heap.size] rfl (by
      intro j u hu
      have hj : j = 0 := by
        have := (List.getElem?_eq_some_iff.1 hu).1
        simpa using this
      subst hj
      rw [← hu]
      exact c2) (by
      intro u hu
      rw [List.mem_singleton] at hu
      subst hu
      rfl) (by unfold maxLen; omega) (by omega) (by omega)
    have hkeep : ∀ g, g < w2.heap.size → (∃ cur, w2.heap[g]? = some (.cells cur 3 (0, 0))) → w'.heap[g]? = w2.heap[g]? := fun g hg ⟨cur, hc⟩ => k3.block g hg (fun e => own_ne h2.own hc (by decide) e.symm)
    have hlt : ∀ g ∈ gs, g < w.heap.size := fun g hg => by
      obtain ⟨j, hj, rfl⟩ := List.getElem_of_mem hg
      exact (Array.getElem?_eq_some_iff.1 (h.rows j hj)).1
    refine ⟨v', w', k1, ⟨?_, fun j hj => ?_, fun g hg => ?_, ?_⟩, ?_⟩
    · rw [List.length_append, List.map_append]
      exact k2
    · by_cases e : j < gs.length
      · rw [List.getElem_append_left e]
        exact (hkeep _ (Array.getElem?_eq_some_iff.1 (h2.rows j e)).1 ⟨_, h2.rows j e⟩).trans (h2.rows j e)
      · have ej : j = gs.length := by simp at hj; omega
        subst ej
        rw [List.getElem_append_right (Nat.le_refl _)]
        simp only [Nat.sub_self, List.getElem_cons_zero]
        exact (hkeep _ (by omega) ⟨_, n2⟩).trans n2
    · rcases List.mem_append.1 hg with hg | hg
      · exact h.ge g hg
      · rw [List.mem_singleton] at hg
        omega
    · rw [List.nodup_append]
      refine ⟨h.nodup, by simp, fun a ha b hb => ?_⟩
      rw [List.mem_singleton] at hb
      have := hlt a ha
      omega
    · exact ((b1.mono hs).trans (b2.mono (by omega))).grown k3 (by omega) fun k hk => (World.ownsRow.lt h2.own k hk).1
theorem nums_set (nr : Nat) (f : Nat → Int) (o : Nat) (x : Int) (ho : o < nr) : (nums nr f).toArray.setIfInBounds o (.int .i64 x) = (nums nr fun j => if j = o then x else f j).toArray := by
  apply Array.ext
  · simp [nums]
  · intro i h1 h2
    by_cases e : i = o
    · subst e
      simp [nums, Array.getElem_setIfInBounds]
    · simp [nums, Array.getElem_setIfInBounds, Ne.symm e, e]
/-- one count more -/
theorem Out2.bump (h : Out2 s w v gs nr F) {i : Nat} (hi : i < gs.length) (o : Nat) (ho : o < nr) (x : Int) : Out2 s (w.setCell ⟨gs[i], o, none⟩ (.int .i64 x)) v gs nr (fun j k => if j = i ∧ k = o then x else F j k) := by
  have hr := h.rows i hi
  refine ⟨ownsRow_setCell_other h.own (own_ne h.own hr (by decide)) _, fun j hj => ?_, h.ge, h.nodup⟩
  by_cases e : j = i
  · subst e
    rw [heap_set hr o _, nums_set nr _ o x ho]
    simp
  · have hne : gs[j] ≠ gs[i] := fun e2 => by
      have hp := List.pairwise_iff_getElem.1 h.nodup
      rcases Nat.lt_or_gt_of_ne e with e3 | e3
      · exact hp j i hj hi e3 e2
      · exact hp i j hi hj e3 e2.symm
    rw [Below.heap_setCell _ _ _ _ hne, h.rows j hj]
    simp [e]
end
end Go.Proofs.Ytpbahffkhpfakaa


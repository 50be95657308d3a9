import Derived.Test.YtpjcaanlagibpaaSame
import Derived.Test.YtpjcaanlagibpaaLedW
import Derived.Lib.SliceRun
namespace Go.Proofs.Ytpjcaanlagibpaa
open Go.RowKit
set_option linter.unusedSimpArgs false
set_option linter.unusedVariables false

theorem flat_cells (w : World) (g : Nat) (ds : List Dec) (h : DecsAt w g 0 ds) : ∀ j u, (flat ds)[j]? = some u → w.cell? ((⟨g, 0, none⟩ : Addr).add j) = some u := by
  intro j u hu
  have hp : (⟨g, 0, none⟩ : Addr).add j = ⟨g, j, none⟩ := by unfold Addr.add; split <;> simp_all
  rw [hp]
  have hlt : j < (flat ds).length := by
    rcases Nat.lt_or_ge j (flat ds).length with h | h
    · exact h
    · rw [List.getElem?_eq_none h] at hu; cases hu
  rw [flat_length] at hlt
  have hj : j / 5 * 5 + j % 5 = j := by omega
  have hi : j / 5 < ds.length := by omega
  have hf := flat_at ds (j / 5) hi (j % 5) (Nat.mod_lt _ (by decide))
  rw [hj, hu] at hf
  obtain ⟨d0, d1, d2, d3, d4⟩ := h (j / 5) hi
  have hm : j % 5 < 5 := Nat.mod_lt _ (by decide)
  simp only [Nat.zero_add] at d0 d1 d2 d3 d4
  generalize ds[j / 5] = q at *
  unfold Dec.cells at hf
  have e : j % 5 = 0 ∨ j % 5 = 1 ∨ j % 5 = 2 ∨ j % 5 = 3 ∨ j % 5 = 4 := by omega
  rcases e with e | e | e | e | e <;> rw [e] at hf hj <;> simp at hf <;> subst hf <;> rw [← hj] <;> assumption

theorem flat_one (ds : List Dec) : ∀ u ∈ flat ds, u.oneCell' = true := by
  intro u hu
  unfold flat at hu
  rw [List.mem_flatMap] at hu
  obtain ⟨d, _, hd⟩ := hu
  simp [Dec.cells] at hd
  rcases hd with rfl | rfl | rfl | rfl | rfl <;> rfl

def CloneOut (ds : List Dec) (w : World) (e : Ending) (w' : World) : Prop :=
  ∃ v : Value, e = .returned v ∧ OwnDecs w' w.heap.size v ds ∧ Below w.heap.size w w'

set_option maxRecDepth 100000 in
set_option maxHeartbeats 4000000 in
theorem clone_any (v : Value) (ds : List Dec) (w : World) (h : SliceDecs w v ds) (hl : ds.length ≤ 1000) :
    Calls Try.prog 57 #[v] w fun e w' => CloneOut ds w e w' := by
  rcases h with ⟨rfl, rfl⟩ | ⟨g, cap, rfl, hg, hc, hd⟩
  · have he : ∀ w : World, (binOp .eql 23 (.slice none 0 0) (.slice none 0 0)).run Try.prog w = .ok (.bool true) w := fun _ => rfl
    go_enter Try.func57, Try.ntmps57
    go_wp2
    go_ret
    exact ⟨_, rfl, ⟨rfl, .inl ⟨rfl, rfl⟩⟩, Below.refl _ _⟩
  · have hcell := flat_cells w g ds hd
    have HC := Lib.hid hcell
    have hli : (ds.length : Int) ≤ 1000 := by omega
    have C2 := Lib.hid (flat_one ds)
    have C3 := Lib.hid (show 0 + ds.length ≤ maxLen from by unfold maxLen; omega)
    have C4 := Lib.hid (show (0 + ds.length) * 40 ≤ 140737488355328 from by omega)
    have CL := Lib.hid (flat_length ds)
    obtain ⟨i0, hi, hz0, hz1', hz2⟩ := info_parts infoDec
    clear hcell hd
    have he : ∀ w : World, (binOp .eql 23 (.slice (some ⟨g, 0, none⟩) ds.length cap) (.slice none 0 0)).run Try.prog w = .ok (.bool false) w := fun _ => rfl
    have hB1 : Below w.heap.size w (w.alloc (.cells #[] 27)) := (Below.refl _ _).alloc (Nat.le_refl _) _
    have hrow : World.ownsRow (w.alloc (.cells #[] 27)) w.heap.size 27 5 (.slice (some ⟨w.heap.size, 0, none⟩) 0 0) 0 [] :=
      ⟨by simp, .inr ⟨w.heap.size, 0, #[], rfl, Nat.le_refl _, by (show (w.heap.push _)[w.heap.size]? = some _; simp), Nat.le_refl _, Nat.zero_le _, by simp, by simp⟩⟩
    have hcell1 : ∀ j u, (flat ds)[j]? = some u → World.cell? (w.alloc (.cells #[] 27)) ((⟨g, 0, none⟩ : Addr).add j) = some u := by
      intro j u hu
      have hp : (⟨g, 0, none⟩ : Addr).add j = ⟨g, j, none⟩ := by unfold Addr.add; split <;> simp_all
      have := HC.out j u hu
      rw [hp] at this ⊢
      rw [World.cell?_alloc_past _ _ _ hg]
      exact this
    have hsz : w.heap.size ≤ (w.alloc (.cells #[] 27)).heap.size := by simp
    have HR := Lib.hid hrow
    have HCC := Lib.hid hcell1
    have HB := Lib.hid hB1
    have HZ := Lib.hid hsz
    clear hrow hcell1 hB1 hsz HC
    go_enter Try.func57, Try.ntmps57
    go_wp2_with (at_builtin; (refine wpList_append_own _ rfl (.tmp 5) (.tmp 6) 23 rfl w.heap.size 27 i0 (.agg #[.int .i64 0, .int .i64 0, .int .i64 0, .int .i64 0, .int .i64 0]) 5 40 Try.underlying23 hi hz0 hz1' hz2 rfl (by decide) (.slice (some ⟨w.heap.size, 0, none⟩) 0 0) 0 [] rfl HR.out ⟨g, 0, none⟩ ds.length cap (flat ds) rfl CL.out HCC.out C2.out C3.out C4.out HZ.out ?_); intro v' w6 hown' hgrow _; have HG := Lib.hid (HB.out.grown hgrow HZ.out (by intro q hq; simp [Value.ownBlock] at hq; omega)); have HW := Lib.hid hown'; clear hgrow hown')
    go_ret
    refine ⟨_, rfl, ?_, HG.out⟩
    unfold OwnDecs
    have := HW.out
    rw [Nat.zero_add, List.nil_append] at this
    exact this
end Go.Proofs.Ytpjcaanlagibpaa

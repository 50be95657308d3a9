import Derived.Test.YtpjcaanlagibpaaRepF
import Derived.Test.YtpjcaanlagibpaaRefV
namespace Go.Proofs.Ytpjcaanlagibpaa
open Go.RowKit
set_option linter.unusedSimpArgs false
set_option linter.unusedVariables false

/-! ## The reference's ledger: copy, check, add -/

def CopyOut (ds : List Dec) (w : World) (e : Ending) (w' : World) : Prop :=
  ∃ v : Value, e = .returned (.agg #[v]) ∧ OwnDecs w' w.heap.size v ds ∧ Below w.heap.size w w'

set_option maxRecDepth 100000 in
set_option maxHeartbeats 4000000 in
theorem refcopy_none (w : World) : Calls Try.prog 59 #[.agg #[.slice none 0 0]] w fun e w' => CopyOut [] w e w' := by
  go_enter Try.func59, Try.ntmps59
  go_wp2_with fail
  exact bodyPost_ret (v := .agg #[.slice none 0 0]) (by simp [results, Try.results59, go_sem]) rfl ⟨_, rfl, ⟨rfl, .inl ⟨rfl, rfl⟩⟩, ((Below.refl _ _).alloc (Nat.le_refl _) _).alloc (by simp) _⟩

set_option maxRecDepth 100000 in
set_option maxHeartbeats 4000000 in
theorem refcopy_some (g cap : Nat) (ds : List Dec) (w : World) (hg : g < w.heap.size) (hd : DecsAt w g 0 ds) (hl : ds.length ≤ 1000) :
    Calls Try.prog 59 #[.agg #[.slice (some ⟨g, 0, none⟩) ds.length cap]] w fun e w' => CopyOut ds w e w' := by
  have hli : (ds.length : Int) ≤ 1000 := by omega
  have C2 := Lib.hid (flat_one ds)
  have C3 := Lib.hid (show 0 + ds.length ≤ maxLen from by unfold maxLen; omega)
  have C4 := Lib.hid (show (0 + ds.length) * 40 ≤ 140737488355328 from by omega)
  have CL := Lib.hid (flat_length ds)
  obtain ⟨i0, hi, hz0, hz1', hz2⟩ := info_parts infoDec
  have hB : Below w.heap.size w ((w.alloc (.cells #[.slice (some ⟨g, 0, none⟩) ds.length cap] 25)).alloc (.cells #[.slice none 0 0] 25)) := ((Below.refl _ _).alloc (Nat.le_refl _) _).alloc (by simp) _
  have hcell : World.cell? ((w.alloc (.cells #[.slice (some ⟨g, 0, none⟩) ds.length cap] 25)).alloc (.cells #[.slice none 0 0] 25)) ⟨w.heap.size + 1, 0, none⟩ = some (.slice none 0 0) := World.cell?_alloc_at _ _ _ _ (by simp)
  have hfree : World.frozen? ((w.alloc (.cells #[.slice (some ⟨g, 0, none⟩) ds.length cap] 25)).alloc (.cells #[.slice none 0 0] 25)) ⟨w.heap.size + 1, 0, none⟩ = false := by rw [frozen?_alloc_cells, frozen?_alloc_cells]; exact frozen_beyond _ _ _ (by omega)
  have hdc := flat_cells _ g ds (hd.below hg hB)
  have hz : ((w.alloc (.cells #[.slice (some ⟨g, 0, none⟩) ds.length cap] 25)).alloc (.cells #[.slice none 0 0] 25)).heap.size = w.heap.size + 2 := by simp
  have hrow : World.ownsRow ((w.alloc (.cells #[.slice (some ⟨g, 0, none⟩) ds.length cap] 25)).alloc (.cells #[.slice none 0 0] 25)) (w.heap.size + 2) 27 5 (.slice none 0 0) 0 [] := ⟨by simp, .inl ⟨rfl, rfl⟩⟩
  have HB := Lib.hid hB
  have HC := Lib.hid hcell
  have HF := Lib.hid hfree
  have HD := Lib.hid hdc
  have HZ := Lib.hid hz
  have HR := Lib.hid hrow
  clear hB hcell hfree hdc hz hrow hd
  go_enter Try.func59, Try.ntmps59
  go_wp2_with (at_builtin; (refine wpList_append_own _ rfl (.const (.slice none 0 0)) (.tmp 4) 23 rfl (w.heap.size + 2) 27 i0 (.agg #[.int .i64 0, .int .i64 0, .int .i64 0, .int .i64 0, .int .i64 0]) 5 40 Try.underlying23 hi hz0 hz1' hz2 rfl (by decide) (.slice none 0 0) 0 [] rfl HR.out ⟨g, 0, none⟩ ds.length cap (flat ds) rfl CL.out HD.out C2.out C3.out C4.out (by rw [HZ.out]; exact Nat.le_refl _) ?_); intro v' w6 hown' hgrow _; have hK := (Below.refl (w.heap.size + 2) _).grown hgrow (by rw [HZ.out]; exact Nat.le_refl _) (by intro q hq; simp [Value.ownBlock] at hq); have hc6 := (hK.cell (p := ⟨w.heap.size + 1, 0, none⟩) (by show w.heap.size + 1 < _; omega)).trans HC.out; have hf6 := (hK.frozen (p := ⟨w.heap.size + 1, 0, none⟩) (by show w.heap.size + 1 < _; omega)).trans HF.out; have HK := Lib.hid hK; have HW := Lib.hid hown'; clear hgrow hK; obtain ⟨a6, n6, m6, rfl⟩ : ∃ a n c, v' = .slice a n c := (by rcases hown'.2 with ⟨h, _⟩ | ⟨g, cap, _, h, _⟩ <;> exact ⟨_, _, _, h⟩); clear hown')
  have hq : World.cell? (w6.setCell ⟨w.heap.size + 1, 0, none⟩ (.slice a6 n6 m6)) ⟨w.heap.size + 1, 0, none⟩ = some (.slice a6 n6 m6) := World.cell?_setCell_same _ _ _ hc6
  have hB : Below w.heap.size w (w6.setCell ⟨w.heap.size + 1, 0, none⟩ (.slice a6 n6 m6)) := (HB.out.trans (HK.out.mono (by omega))).setCell (by show w.heap.size ≤ w.heap.size + 1; omega) _
  have hO6 : OwnDecs w6 (w.heap.size + 2) (.slice a6 n6 m6) ds := by
    unfold OwnDecs
    have := HW.out
    rw [Nat.zero_add, List.nil_append] at this
    exact this
  have hO : OwnDecs (w6.setCell ⟨w.heap.size + 1, 0, none⟩ (.slice a6 n6 m6)) w.heap.size (.slice a6 n6 m6) ds :=
    hO6.kept' (by omega) fun k hk _ => Below.heap_setCell _ _ _ _ (by show k ≠ w.heap.size + 1; omega)
  exact bodyPost_ret (v := .agg #[.slice a6 n6 m6]) (by simp [results, Try.results59, go_sem, hq]) rfl ⟨_, rfl, hO, hB⟩

theorem refcopy_any (v : Value) (ds : List Dec) (w : World) (h : SliceDecs w v ds) (hl : ds.length ≤ 1000) :
    Calls Try.prog 59 #[.agg #[v]] w fun e w' => CopyOut ds w e w' := by
  rcases h with ⟨rfl, rfl⟩ | ⟨g, cap, rfl, hg, hc, hd⟩
  · exact refcopy_none w
  · exact refcopy_some g cap ds w hg hd hl

theorem OKs.next {ds : List Dec} (h : OKs ds) {k : Nat} (hk : k < ds.length) (h0 : 0 < k) : ¬ ds[k].day < (ds[k - 1]'(by omega)).day ∧ ¬ ds[k].known < (ds[k - 1]'(by omega)).known := by
  have hf := h k hk
  unfold followsE at hf
  have hok := h.ok (List.getElem_mem hk)
  rw [if_pos hok] at hf
  have hl : (ds.take k).getLast? = some (ds[k - 1]'(by omega)) := by
    rw [List.getLast?_eq_getElem?]
    have : (ds.take k).length = k := by simp; omega
    rw [this, List.getElem?_take, if_pos (by omega), List.getElem?_eq_getElem (by omega)]
  rw [hl] at hf
  by_cases hc : ds[k].day < (ds[k - 1]'(by omega)).day ∨ ds[k].known < (ds[k - 1]'(by omega)).known
  · simp only [if_pos hc] at hf; omega
  · exact ⟨fun h => hc (.inl h), fun h => hc (.inr h)⟩

theorem refcheck_none (w : World) :
    Calls Try.prog 23 #[.agg #[.slice none 0 0]] w fun e w' => e = .returned (.int .i64 0) ∧ Below w.heap.size w w' := by
  go_enter Try.func23, Try.ntmps23
  go_wp2_with fail
  refine wp_loop_rounds 1 ?_
  rw [rounds_succ]
  go_wp2_with fail
  go_ret
  exact ⟨rfl, (Below.refl _ _).alloc (Nat.le_refl _) _⟩

set_option maxRecDepth 100000 in
set_option maxHeartbeats 4000000 in
theorem refcheck_some (b cap : Nat) (ds : List Dec) (w : World) (hl : ds.length ≤ 128) (hcap : ds.length ≤ cap) (hb : b < w.heap.size) (hm : DecsAt w b 0 ds) (hok : OKs ds) :
    Calls Try.prog 23 #[.agg #[.slice (some ⟨b, 0, none⟩) ds.length cap]] w fun e w' => e = .returned (.int .i64 0) ∧ Below w.heap.size w w' := by
  have hl2 : (ds.length : Int) ≤ 128 := by omega
  have HM := Lib.hid hm
  have HOK := Lib.hid hok
  clear hm hok
  go_enter Try.func23, Try.ntmps23
  go_wp2_with fail
  go_loopw [3, 4, 12] (fun _ _ i wr => ∃ k : Nat, k ≤ ds.length ∧ i = .int .i64 k ∧ Below (w.heap.size + 1) (w.alloc (.cells #[.slice (some ⟨b, 0, none⟩) ds.length cap] 25)) wr) (fun _ _ i _ => ds.length - (intOf i).toNat)
  case atStart => exact ⟨0, Nat.zero_le _, rfl, Below.refl _ _⟩
  case round =>
    obtain ⟨k, hk, rfl, hbe⟩ := hrel
    have hcB : wr.cell? ⟨w.heap.size, 0, none⟩ = some (.slice (some ⟨b, 0, none⟩) ds.length cap) := by
      rw [hbe.cell (p := ⟨w.heap.size, 0, none⟩) (by simp)]; exact World.cell?_alloc_at _ _ _ _ rfl
    have hcb : ∀ o, wr.cell? ⟨b, o, none⟩ = w.cell? ⟨b, o, none⟩ := by
      intro o
      rw [hbe.cell (p := ⟨b, o, none⟩) (by show b < _; omega)]
      exact World.cell?_alloc_past _ _ _ hb
    have hsz := hbe.size
    simp at hsz
    have hz1 : w.heap.size < wr.heap.size := by omega
    have hz2 : b < wr.heap.size := by omega
    have hD : DecsAt wr b 0 ds := fun i hi => (HM.out i hi).of_cells hcb
    have HB := Lib.hid ((((Below.refl w.heap.size w).alloc (Nat.le_refl _) (.cells #[.slice (some ⟨b, 0, none⟩) ds.length cap] 25))).trans (hbe.mono (by omega)))
    have HBE := Lib.hid hbe
    clear hbe hcb hsz
    by_cases hlt : k < ds.length
    · obtain ⟨c0, c1, c2, c3, c4⟩ := hD k hlt
      simp only [Nat.zero_add] at c0 c1 c2 c3 c4
      have hlti : (k : Int) < (ds.length : Int) := by omega
      have HV := Lib.hid (fun w1 => refvalid_yes ds[k] w1 (HOK.out.ok (List.getElem_mem _)))
      unfold Dec.val at HV
      have HD := Lib.hid hD
      clear hD
      go_wp2_with fail
      refine (HV.out _).mono ?_
      rintro e w2 ⟨rfl, hb2⟩
      have hb3 : Below wr.heap.size wr w2 := ((Below.refl _ _).alloc (Nat.le_refl _) _).trans (hb2.mono (by simp))
      have hd0 : w2.cell? ⟨wr.heap.size, 0, none⟩ = some (.int .i64 ds[k].day) := (hb2.cell (p := ⟨wr.heap.size, 0, none⟩) (by simp)).trans (World.cell?_alloc_at _ _ _ _ rfl)
      have hd1 : w2.cell? ⟨wr.heap.size, 1, none⟩ = some (.int .i64 ds[k].known) := (hb2.cell (p := ⟨wr.heap.size, 1, none⟩) (by simp)).trans (World.cell?_alloc_at _ _ _ _ rfl)
      have hcB2 := (hb3.cell (p := ⟨w.heap.size, 0, none⟩) hz1).trans hcB
      have HB3 := Lib.hid (HBE.out.trans (hb3.mono (by omega)))
      have hD2 := HD.out.below hz2 hb3
      clear hb2 hb3 c0 c1 c2 c3 c4 hcB HV HBE HB
      by_cases hk0 : k = 0
      · subst hk0
        clear hD2
        go_wp2_with fail
        refine wp_region_quiet_lit (by kernel_rfl) (by kernel_rfl) ?_
        repeat (any_goals (first | go_big_quiet_step (fail) | quiet_step (fail)))
        refine wpQuiet_nil ?_; intro _ hw'; obtain ⟨nq, hw''⟩ := hw'; subst hw''
        go_wp2_with fail
        exact ⟨⟨1, by omega, by go_num, below_drewN HB3.out _⟩, by simp [intOf]; omega⟩
      · have hnx := HOK.out.next hlt (by omega)
        obtain ⟨p0, p1, _, _, _⟩ := hD2 (k - 1) (by omega)
        simp only [Nat.zero_add] at p0 p1
        have hp : (0 : Int) < (k : Int) := by omega
        have hpn : 0 < k := by omega
        have hi0 : (0 : Int) ≤ (k : Int) - 1 := by omega
        have hi1 : (k : Int) - 1 < (ds.length : Int) := by omega
        have hw1 : IntKind.i64.wrap ((k : Int) - 1) = (k : Int) - 1 := IntWalk.i64_in _ (by omega)
        have hw2 : ((k : Int) - 1).toNat = k - 1 := by omega
        obtain ⟨hn1, hn2⟩ := hnx
        have HNX := Lib.hid hn1
        generalize ds[k].day = da at *
        generalize ds[k].known = ka at *
        generalize (ds[k - 1]'(by omega)).day = db at *
        generalize (ds[k - 1]'(by omega)).known = kb at *
        clear hD2 HD
        have hdd : decide (da < db) = false := decide_eq_false hn1
        have hdk : decide (ka < kb) = false := decide_eq_false hn2
        go_wp2_with fail
        refine wp_region_quiet_lit (by kernel_rfl) (by kernel_rfl) ?_
        repeat (any_goals (first | go_big_quiet_step (fail) | quiet_step (fail)))
        refine wpQuiet_nil ?_; intro _ hw'; obtain ⟨nq, hw''⟩ := hw'; subst hw''
        clear hw1 hw2 hi0 hi1 hp hpn p0 p1 hd0 hd1 hcB2
        go_wp2_with fail
        exact ⟨⟨k + 1, by omega, by go_num, below_drewN HB3.out _⟩, by simp [intOf]; omega⟩
    · have hkk : k = ds.length := by omega
      subst hkk
      clear hD HBE
      go_wp2_with fail
      go_ret
      exact ⟨rfl, HB.out⟩

theorem refcheck_val (v : Value) (ds : List Dec) (w : World) (h : SliceDecs w v ds) (hl : ds.length ≤ 128) (hok : OKs ds) :
    Calls Try.prog 23 #[.agg #[v]] w fun e w' => e = .returned (.int .i64 0) ∧ Below w.heap.size w w' := by
  rcases h with ⟨rfl, rfl⟩ | ⟨g, cap, rfl, hg, hc, hd⟩
  · exact refcheck_none w
  · exact refcheck_some g cap ds w hl hc hg hd hok
end Go.Proofs.Ytpjcaanlagibpaa

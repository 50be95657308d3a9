import Derived.Test.YtpjcaanlagibpaaAddN
import Derived.Test.YtpjcaanlagibpaaJour
namespace Go.Proofs.Ytpjcaanlagibpaa
open Go.RowKit
set_option linter.unusedSimpArgs false
set_option linter.unusedVariables false

/-- the ledger of decisions, of which those that cannot be the next one are left out -/
def addAll (ds : List Dec) : List Dec := ds.foldl addOne []
theorem addAll_snoc (ds : List Dec) (d : Dec) : addAll (ds ++ [d]) = addOne (addAll ds) d := by unfold addAll; rw [List.foldl_append]; rfl
theorem foldl_oks : ∀ (ds acc : List Dec), OKs acc → OKs (ds.foldl addOne acc)
  | [], _, h => h
  | d :: ds, acc, h => foldl_oks ds (addOne acc d) (addOne_oks h)
theorem addAll_oks (ds : List Dec) : OKs (addAll ds) := foldl_oks ds [] OKs.nil
theorem foldl_length : ∀ (ds acc : List Dec), (ds.foldl addOne acc).length ≤ acc.length + ds.length
  | [], _ => by simp
  | d :: ds, acc => by
    have h1 := foldl_length ds (addOne acc d)
    have h2 := addOne_length acc d
    simp only [List.foldl_cons, List.length_cons]
    omega
theorem addAll_length (ds : List Dec) : (addAll ds).length ≤ ds.length := by unfold addAll; have := foldl_length ds []; simpa using this

set_option maxRecDepth 100000 in
set_option maxHeartbeats 4000000 in
theorem replayF_some (s : ByteArray) (ds : List Dec) (w : World) (h : Reads s ds) (hl : ds.length ≤ 100) (h0 : 0 < ds.length) :
    Calls Try.prog 48 #[.string s] w fun e w' => ∃ v : Value, e = .returned (.tuple #[.agg #[v], .int .i64 ds.length]) ∧ SliceDecs w' v (addAll ds) ∧ Below w.heap.size w w' := by
  have hli : (ds.length : Int) ≤ 100 := by omega
  have HO := Lib.hid (fun w1 => open_any s ds w1 h)
  clear h
  go_enter Try.func48, Try.ntmps48
  go_wp2_with fail
  refine (HO.out _).mono ?_
  rintro e w1 ⟨v1, rfl, hO1, hb1⟩
  rcases hO1.cases with ⟨_, h2⟩ | ⟨g, cap, rfl, hge, hg, hcap, hd⟩
  · rw [h2] at h0; simp at h0
  have hc1 : w1.cell? ⟨w.heap.size, 0, none⟩ = some (.slice none 0 0) := by
    rw [hb1.cell (p := ⟨w.heap.size, 0, none⟩) (by simp)]; exact World.cell?_alloc_at _ _ _ _ (by simp)
  have hf1 : w1.frozen? ⟨w.heap.size, 0, none⟩ = false := by
    rw [hb1.frozen (p := ⟨w.heap.size, 0, none⟩) (by simp), frozen?_alloc_cells]; exact frozen_beyond _ _ _ (by omega)
  have hz1 : w.heap.size + 1 ≤ w1.heap.size := by have := hb1.size; simp at this; exact this
  have hbw : Below w.heap.size w w1 := ((Below.refl _ _).alloc (Nat.le_refl _) _).trans (hb1.mono (by simp))
  have hst : RepSt w (w1.alloc (.cells #[.slice none 0 0] 25)) w1.heap.size g (.slice none 0 0) ds [] := by
    refine ⟨hbw.alloc hbw.size _, ⟨.slice none 0 0, ?_⟩, ?_, World.cell?_alloc_at _ _ _ _ (by simp), ?_, ?_, ⟨rfl, .inl ⟨rfl, rfl⟩⟩, by simp, by simp; omega, by omega, by omega⟩
    · rw [World.cell?_alloc_past _ _ _ (by omega)]; exact hc1
    · rw [frozen?_alloc_cells]; exact hf1
    · rw [frozen?_alloc_cells]; exact frozen_beyond _ _ _ (by omega)
    · exact hd.below hg ((Below.refl _ _).alloc (Nat.le_refl _) _)
  have HST := Lib.hid hst
  clear hst hc1 hf1 hz1 hbw hd hb1 hO1 hge
  go_wp2_with fail
  generalize w1.heap.size = B at *
  generalize w1.alloc (.cells #[.slice none 0 0] 25) = W1 at *
  go_loopw [8, 16] (fun _ i wr => ∃ (k : Nat) (v : Value), k ≤ ds.length ∧ i = .int .i64 k ∧ RepSt w wr B g v ds (addAll (ds.take k))) (fun _ i _ => ds.length - (intOf i).toNat)
  case atStart => exact ⟨0, _, Nat.zero_le _, rfl, HST.out⟩
  case round =>
    obtain ⟨k, v, hk, rfl, hst⟩ := hrel
    by_cases hlt : k < ds.length
    · obtain ⟨c0, c1, c2, c3, c4⟩ := hst.decs k hlt
      simp only [Nat.zero_add] at c0 c1 c2 c3 c4
      have hlti : (k : Int) < (ds.length : Int) := by omega
      have hgw := hst.sizeg
      have hcB := hst.cell
      have hfB := hst.free
      have hbz := hst.sizeB
      have hTk : addOne (addAll (ds.take k)) ds[k] = addAll (ds.take (k + 1)) := by rw [take_snoc_dec ds k hlt, addAll_snoc]
      have hA := Lib.hid (fun w1 h1 => add_any v (addAll (ds.take k)) ds[k] w1 h1 (by have := addAll_length (ds.take k); simp at this; omega) (addAll_oks _))
      rw [hTk] at hA
      have hst2 := hst.mono ((Below.refl _ _).alloc (Nat.le_refl _) (.cells #[.int .i64 ds[k].day, .int .i64 ds[k].known, .int .i64 ds[k].kind, .int .i64 ds[k].subject, .int .i64 ds[k].value] 27))
      have HS2 := Lib.hid hst2
      obtain ⟨av, nv, mv, rfl⟩ := OwnDecs.slice_val hst.own
      clear hst hst2 HST
      generalize hd : ds[k] = d at *
      generalize followsE (addAll (ds.take k)) d = fc at *
      unfold Dec.val at hA
      clear hd hTk
      go_wp2_with fail
      refine (hA.out _ (OwnDecs.slice HS2.out.own)).mono ?_
      rintro e w5 ⟨v5, rfl, hO5, hb5⟩
      have hm5 := HS2.out.mono hb5
      have hc5 := hm5.cell
      have hf5 := hm5.free
      have hN := Lib.hid (HS2.out.store hb5 hO5)
      obtain ⟨a5, n5, m5, rfl⟩ := hO5.slice_val
      clear hm5 hb5 hO5 HS2 hA
      go_wp2_with fail
      exact ⟨⟨k + 1, _, by omega, by go_num, hN.out⟩, by simp [intOf]; omega⟩
    · have hkk : k = ds.length := by omega
      subst hkk
      rw [List.take_length] at hst
      obtain ⟨u0, hu0⟩ := hst.res
      have hf0 := hst.rfree
      have hcB := hst.cell
      have hfB := hst.free
      obtain ⟨av, nv, mv, rfl⟩ := OwnDecs.slice_val hst.own
      have HN := Lib.hid hst
      clear hst HST
      go_wp2_with fail
      have hn := HN.out.near
      have hq : World.cell? (wr.setCell ⟨w.heap.size, 0, none⟩ (.slice av nv mv)) ⟨w.heap.size, 0, none⟩ = some (.slice av nv mv) := World.cell?_setCell_same _ _ _ hu0
      have hB : Below w.heap.size w (wr.setCell ⟨w.heap.size, 0, none⟩ (.slice av nv mv)) := HN.out.below.setCell (Nat.le_refl _) _
      have hO : OwnDecs (wr.setCell ⟨w.heap.size, 0, none⟩ (.slice av nv mv)) (w.heap.size + 1) (.slice av nv mv) (addAll ds) := OwnDecs.kept HN.out.own fun k hk _ => Below.heap_setCell _ _ _ _ (by show k ≠ w.heap.size; omega)
      exact bodyPost_ret (v := .tuple #[.agg #[.slice av nv mv], .int .i64 ds.length]) (by simp [results, Try.results48, go_sem, hq]) rfl ⟨_, rfl, hO.slice, hB⟩

theorem replayF_none (s : ByteArray) (w : World) (h : Reads s []) :
    Calls Try.prog 48 #[.string s] w fun e w' => ∃ v : Value, e = .returned (.tuple #[.agg #[v], .int .i64 0]) ∧ SliceDecs w' v [] ∧ Below w.heap.size w w' := by
  have HO := Lib.hid (fun w1 => open_any s [] w1 h)
  clear h
  go_enter Try.func48, Try.ntmps48
  go_wp2_with fail
  refine (HO.out _).mono ?_
  rintro e w1 ⟨v1, rfl, hO1, hb1⟩
  obtain ⟨a4, c4, rfl⟩ : ∃ a4 c4, v1 = .slice a4 0 c4 := by
    rcases hO1.cases with ⟨h1, _⟩ | ⟨g, cap, h1, _⟩
    · exact ⟨_, _, h1⟩
    · exact ⟨_, _, h1⟩
  have hc1 : w1.cell? ⟨w.heap.size, 0, none⟩ = some (.slice none 0 0) := by
    rw [hb1.cell (p := ⟨w.heap.size, 0, none⟩) (by simp)]; exact World.cell?_alloc_at _ _ _ _ (by simp)
  have hf1 : w1.frozen? ⟨w.heap.size, 0, none⟩ = false := by
    rw [hb1.frozen (p := ⟨w.heap.size, 0, none⟩) (by simp), frozen?_alloc_cells]; exact frozen_beyond _ _ _ (by omega)
  have hz1 : w.heap.size + 1 ≤ w1.heap.size := by have := hb1.size; simp at this; exact this
  have hbw : Below w.heap.size w w1 := ((Below.refl _ _).alloc (Nat.le_refl _) _).trans (hb1.mono (by simp))
  have hlt : w.heap.size < w1.heap.size := by omega
  have hc2 : (w1.alloc (.cells #[.slice none 0 0] 25)).cell? ⟨w.heap.size, 0, none⟩ = some (.slice none 0 0) := by rw [World.cell?_alloc_past _ _ _ hlt]; exact hc1
  have hf2 : (w1.alloc (.cells #[.slice none 0 0] 25)).frozen? ⟨w.heap.size, 0, none⟩ = false := by rw [frozen?_alloc_cells]; exact hf1
  have hc3 : (w1.alloc (.cells #[.slice none 0 0] 25)).cell? ⟨w1.heap.size, 0, none⟩ = some (.slice none 0 0) := World.cell?_alloc_at _ _ _ _ (by simp)
  have hbw2 : Below w.heap.size w (w1.alloc (.cells #[.slice none 0 0] 25)) := hbw.alloc hbw.size _
  clear hO1 hb1 hc1 hf1 hbw
  go_wp2_with fail
  generalize w1.alloc (.cells #[.slice none 0 0] 25) = W1 at *
  refine wp_loop_rounds 1 ?_
  rw [rounds_succ]
  go_wp2_with fail
  have hq : World.cell? (W1.setCell ⟨w.heap.size, 0, none⟩ (.slice none 0 0)) ⟨w.heap.size, 0, none⟩ = some (.slice none 0 0) := World.cell?_setCell_same _ _ _ hc2
  exact bodyPost_ret (v := .tuple #[.agg #[.slice none 0 0], .int .i64 0]) (by simp [results, Try.results48, go_sem, hq]) rfl ⟨_, rfl, .inl ⟨rfl, rfl⟩, hbw2.setCell (Nat.le_refl _) _⟩

theorem replayF_any (s : ByteArray) (ds : List Dec) (w : World) (h : Reads s ds) (hl : ds.length ≤ 100) :
    Calls Try.prog 48 #[.string s] w fun e w' => ∃ v : Value, e = .returned (.tuple #[.agg #[v], .int .i64 ds.length]) ∧ SliceDecs w' v (addAll ds) ∧ Below w.heap.size w w' := by
  cases ds with
  | nil => exact replayF_none s w h
  | cons d ds => exact replayF_some s (d :: ds) w h hl (by simp)
end Go.Proofs.Ytpjcaanlagibpaa

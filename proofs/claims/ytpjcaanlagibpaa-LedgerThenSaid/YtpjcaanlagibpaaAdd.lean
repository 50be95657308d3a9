import Derived.Test.YtpjcaanlagibpaaClone
namespace Go.Proofs.Ytpjcaanlagibpaa
open Go.RowKit
set_option linter.unusedSimpArgs false
set_option linter.unusedVariables false

theorem check_nil (w : World) :
    Calls Try.prog 22 #[.agg #[.slice none 0 0]] w fun e w' => e = .returned (.int .i64 0) ∧ Below w.heap.size w w' := by
  go_enter Try.func22, Try.ntmps22
  go_wp2_with fail
  refine wp_loop_rounds 1 ?_
  rw [rounds_succ]
  go_wp2_with fail
  go_ret
  exact ⟨rfl, (Below.refl _ _).alloc (Nat.le_refl _) _⟩

theorem check_val (v : Value) (ds : List Dec) (w : World) (h : SliceDecs w v ds) (hl : ds.length ≤ 128) :
    Calls Try.prog 22 #[.agg #[v]] w fun e w' => e = .returned (.int .i64 (checkFrom ds 0)) ∧ Below w.heap.size w w' := by
  rcases h with ⟨rfl, rfl⟩ | ⟨g, cap, rfl, hg, hc, hd⟩
  · have e : checkFrom [] 0 = 0 := by rw [checkFrom]; simp
    rw [e]
    exact check_nil w
  · exact check_any g 0 cap ds w hl hc hg hd

theorem follows_val (v : Value) (ds : List Dec) (d : Dec) (w : World) (h : SliceDecs w v ds) (hl : ds.length ≤ 1000) :
    Calls Try.prog 58 #[v, d.val] w fun e w' => e = .returned (.int .i64 (followsE ds d)) ∧ Below w.heap.size w w' := by
  rcases h with ⟨rfl, rfl⟩ | ⟨g, cap, rfl, hg, hc, hd⟩
  · by_cases hok : d.ok = true
    · exact (follows_first none 0 _ _ _ _ _ w hok).mono fun e w' ⟨h1, h2⟩ => ⟨by rw [h1]; simp [followsE, hok], h2⟩
    · exact (follows_bad none 0 0 _ _ _ _ _ w (by simpa [Dec.ok] using hok)).mono fun e w' ⟨h1, h2⟩ => ⟨by rw [h1]; simp [followsE, hok], h2⟩
  · exact follows_any g 0 cap ds d w hl hd

/-- the variables of Add -/
structure AddSt (w W : World) (v : Value) (ds : List Dec) (d : Dec) : Prop where
  below : Below w.heap.size w W
  cell : W.cell? ⟨w.heap.size, 0, none⟩ = some v
  free : W.frozen? ⟨w.heap.size, 0, none⟩ = false
  dec : DecAt W (w.heap.size + 1) 0 d
  out : ∃ u, W.cell? ⟨w.heap.size + 1 + 1, 0, none⟩ = some u
  ofree : W.frozen? ⟨w.heap.size + 1 + 1, 0, none⟩ = false
  own : W.ownsRow (w.heap.size + 1 + 1 + 1) 27 5 v ds.length (flat ds)
  size : w.heap.size + 1 + 1 + 1 ≤ W.heap.size

theorem AddSt.mono {w W W' : World} {v : Value} {ds : List Dec} {d : Dec} (h : AddSt w W v ds d) (hb : Below W.heap.size W W') : AddSt w W' v ds d := by
  have hs := h.size
  refine ⟨h.below.trans (hb.mono h.below.size), ?_, ?_, ?_, ?_, ?_, ?_, Nat.le_trans hs hb.size⟩
  · exact (hb.cell (p := ⟨w.heap.size, 0, none⟩) (by show w.heap.size < _; omega)).trans h.cell
  · exact (hb.frozen (p := ⟨w.heap.size, 0, none⟩) (by show w.heap.size < _; omega)).trans h.free
  · exact h.dec.of_cells (fun o => hb.cell (p := ⟨w.heap.size + 1, o, none⟩) (by show w.heap.size + 1 < _; omega))
  · obtain ⟨u, hu⟩ := h.out
    exact ⟨u, (hb.cell (p := ⟨w.heap.size + 1 + 1, 0, none⟩) (by show w.heap.size + 1 + 1 < _; omega)).trans hu⟩
  · exact (hb.frozen (p := ⟨w.heap.size + 1 + 1, 0, none⟩) (by show w.heap.size + 1 + 1 < _; omega)).trans h.ofree
  · exact OwnDecs.below (base := w.heap.size + 1 + 1 + 1) h.own hb

def AddOut (ds : List Dec) (c : Int) (w : World) (e : Ending) (w' : World) : Prop :=
  ∃ v : Value, e = .returned (.tuple #[.agg #[v], .int .i64 c]) ∧ OwnDecs w' w.heap.size v ds ∧ Below w.heap.size w w'

set_option maxRecDepth 100000 in
set_option maxHeartbeats 4000000 in
theorem add_ok (v : Value) (ds : List Dec) (d : Dec) (w : World) (h : SliceDecs w v ds) (hl : ds.length < 128) (hok : OKs ds) (hf : followsE ds d = 0) :
    Calls Try.prog 19 #[.agg #[v], d.val] w fun e w' => AddOut (ds ++ [d]) 0 w e w' := by
  have hli : (ds.length : Int) < 128 := by omega
  have hfo := fun v w1 h1 => follows_val v ds d w1 h1 (by omega)
  rw [hf] at hfo
  unfold Dec.val at hfo ⊢
  have hck := fun v w1 h1 => check_val v ds w1 h1 (by omega)
  rw [hok.check 0] at hck
  have hcl := fun w1 h1 => clone_any v ds w1 h1 (by omega)
  have HF := Lib.hid hfo
  have HC := Lib.hid hck
  have HL := Lib.hid hcl
  have HS := Lib.hid h
  obtain ⟨a0, n0, c0, rfl⟩ : ∃ a n c, v = .slice a n c := by
    rcases h with ⟨rfl, _⟩ | ⟨g, cap, rfl, _⟩
    · exact ⟨_, _, _, rfl⟩
    · exact ⟨_, _, _, rfl⟩
  clear h hfo hck hcl hok hf
  go_enter Try.func19, Try.ntmps19
  go_wp2_with fail
  have hb3 : Below w.heap.size w (((w.alloc (.cells #[.slice a0 n0 c0] 25)).alloc (.cells #[.int .i64 d.day, .int .i64 d.known, .int .i64 d.kind, .int .i64 d.subject, .int .i64 d.value] 27)).alloc (.cells #[.slice none 0 0] 25)) := (((Below.refl _ _).alloc (Nat.le_refl _) _).alloc (by simp) _).alloc (by simp; omega) _
  have c0' : World.cell? (((w.alloc (.cells #[.slice a0 n0 c0] 25)).alloc (.cells #[.int .i64 d.day, .int .i64 d.known, .int .i64 d.kind, .int .i64 d.subject, .int .i64 d.value] 27)).alloc (.cells #[.slice none 0 0] 25)) ⟨w.heap.size, 0, none⟩ = some (.slice a0 n0 c0) := by
    rw [World.cell?_alloc_past _ _ _ (by simp; omega), World.cell?_alloc_past _ _ _ (by simp)]; exact World.cell?_alloc_at _ _ _ _ (by simp)
  have f0' : World.frozen? (((w.alloc (.cells #[.slice a0 n0 c0] 25)).alloc (.cells #[.int .i64 d.day, .int .i64 d.known, .int .i64 d.kind, .int .i64 d.subject, .int .i64 d.value] 27)).alloc (.cells #[.slice none 0 0] 25)) ⟨w.heap.size, 0, none⟩ = false := by
    rw [frozen?_alloc_cells, frozen?_alloc_cells, frozen?_alloc_cells]; exact frozen_beyond _ _ _ (by omega)
  have d0' : DecAt (((w.alloc (.cells #[.slice a0 n0 c0] 25)).alloc (.cells #[.int .i64 d.day, .int .i64 d.known, .int .i64 d.kind, .int .i64 d.subject, .int .i64 d.value] 27)).alloc (.cells #[.slice none 0 0] 25)) (w.heap.size + 1) 0 d := by
    unfold DecAt
    simp only [World.cell?_alloc_past (o := (.cells #[.slice none 0 0] 25)) (hn := show w.heap.size + 1 < ((w.alloc (.cells #[.slice a0 n0 c0] 25)).alloc (.cells #[.int .i64 d.day, .int .i64 d.known, .int .i64 d.kind, .int .i64 d.subject, .int .i64 d.value] 27)).heap.size by simp)]
    exact ⟨World.cell?_alloc_at _ _ _ _ (by simp), World.cell?_alloc_at _ _ _ _ (by simp), World.cell?_alloc_at _ _ _ _ (by simp), World.cell?_alloc_at _ _ _ _ (by simp), World.cell?_alloc_at _ _ _ _ (by simp)⟩
  have o0' : World.cell? (((w.alloc (.cells #[.slice a0 n0 c0] 25)).alloc (.cells #[.int .i64 d.day, .int .i64 d.known, .int .i64 d.kind, .int .i64 d.subject, .int .i64 d.value] 27)).alloc (.cells #[.slice none 0 0] 25)) ⟨w.heap.size + 1 + 1, 0, none⟩ = some (.slice none 0 0) := World.cell?_alloc_at _ _ _ _ (by simp)
  have g0' : World.frozen? (((w.alloc (.cells #[.slice a0 n0 c0] 25)).alloc (.cells #[.int .i64 d.day, .int .i64 d.known, .int .i64 d.kind, .int .i64 d.subject, .int .i64 d.value] 27)).alloc (.cells #[.slice none 0 0] 25)) ⟨w.heap.size + 1 + 1, 0, none⟩ = false := by
    rw [frozen?_alloc_cells, frozen?_alloc_cells, frozen?_alloc_cells]; exact frozen_beyond _ _ _ (by omega)
  have z3 : (((w.alloc (.cells #[.slice a0 n0 c0] 25)).alloc (.cells #[.int .i64 d.day, .int .i64 d.known, .int .i64 d.kind, .int .i64 d.subject, .int .i64 d.value] 27)).alloc (.cells #[.slice none 0 0] 25)).heap.size = w.heap.size + 1 + 1 + 1 := by simp
  have hs3 := HS.out.below hb3
  generalize (((w.alloc (.cells #[.slice a0 n0 c0] 25)).alloc (.cells #[.int .i64 d.day, .int .i64 d.known, .int .i64 d.kind, .int .i64 d.subject, .int .i64 d.value] 27)).alloc (.cells #[.slice none 0 0] 25)) = W3 at *
  refine (HL.out _ hs3).mono ?_
  rintro e w4 ⟨v4, rfl, hO4, hb4⟩
  have hx : w.heap.size < W3.heap.size := by omega
  have hx1 : w.heap.size + 1 < W3.heap.size := by omega
  have hx2 : w.heap.size + 1 + 1 < W3.heap.size := by omega
  have hc4 := (hb4.cell (p := ⟨w.heap.size, 0, none⟩) hx).trans c0'
  have hf4 := (hb4.frozen (p := ⟨w.heap.size, 0, none⟩) hx).trans f0'
  obtain ⟨a4, n4, m4, rfl⟩ := hO4.slice_val
  have hst : AddSt w (w4.setCell ⟨w.heap.size, 0, none⟩ (.slice a4 n4 m4)) (.slice a4 n4 m4) ds d := by
    refine ⟨(hb3.trans (hb4.mono hb3.size)).setCell (Nat.le_refl _) _, World.cell?_setCell_same _ _ _ hc4, by rw [World.frozen?_setCell]; exact hf4, ?_, ?_, ?_, ?_, ?_⟩
    · refine (d0'.of_cells (w' := w4.setCell ⟨w.heap.size, 0, none⟩ (.slice a4 n4 m4)) fun o => ?_)
      rw [World.cell?_setCell_far _ _ _ _ (by show w.heap.size ≠ w.heap.size + 1; omega)]
      exact hb4.cell (p := ⟨w.heap.size + 1, o, none⟩) hx1
    · exact ⟨_, by rw [World.cell?_setCell_far _ _ _ _ (by show w.heap.size ≠ w.heap.size + 1 + 1; omega)]; exact (hb4.cell (p := ⟨w.heap.size + 1 + 1, 0, none⟩) hx2).trans o0'⟩
    · rw [World.frozen?_setCell]; exact (hb4.frozen (p := ⟨w.heap.size + 1 + 1, 0, none⟩) hx2).trans g0'
    · have hO5 : OwnDecs (w4.setCell ⟨w.heap.size, 0, none⟩ (.slice a4 n4 m4)) W3.heap.size (.slice a4 n4 m4) ds := hO4.kept fun k hk _ => Below.heap_setCell _ _ _ _ (by show k ≠ w.heap.size; omega)
      rw [z3] at hO5
      exact hO5
    · rw [World.size_setCell]; have := hb4.size; omega
  clear hs3 z3 hb3 c0' f0' d0' o0' g0' hO4 hx hx1 hx2 HL HS
  have HST := Lib.hid hst
  clear hst hb4
  go_wp2_with fail
  have hsd : ∀ W, AddSt w W (.slice a4 n4 m4) ds d → SliceDecs W (.slice a4 n4 m4) ds := fun W h => OwnDecs.slice (base := w.heap.size + 1 + 1 + 1) h.own
  have HSD := Lib.hid hsd
  clear hsd
  refine (HC.out _ _ (HSD.out _ HST.out)).mono ?_
  rintro e w5 ⟨rfl, hb5⟩
  have hst := HST.out.mono hb5
  have hc5 := hst.cell
  have hf5 := hst.free
  obtain ⟨d0, d1, d2, d3, d4⟩ := hst.dec
  have hlen : (n4 : Int) = (ds.length : Int) := by
    rcases OwnDecs.cases (base := w.heap.size + 1 + 1 + 1) hst.own with ⟨h1, h2⟩ | ⟨g, cap, h1, _⟩
    · injection h1 with _ h3 _; rw [h2, h3]; rfl
    · injection h1 with _ h3 _; rw [h3]
  have hli4 : (n4 : Int) < 128 := by omega
  have hne4 : ((n4 : Int) == 128) = false := by simp; omega
  clear HST hb5 HC
  have HST := Lib.hid hst
  clear hst hlen
  go_wp2_with fail
  refine (HF.out _ _ (HSD.out _ HST.out)).mono ?_
  rintro e w6 ⟨rfl, hb6⟩
  have hst := (HST.out.mono hb6).mono ((Below.refl _ _).alloc (Nat.le_refl _) (.cells #[.int .i64 d.day, .int .i64 d.known, .int .i64 d.kind, .int .i64 d.subject, .int .i64 d.value] 27))
  have hst6 := HST.out.mono hb6
  have hc6 := hst6.cell
  have hf6 := hst6.free
  obtain ⟨d0', d1', d2', d3', d4'⟩ := hst6.dec
  have htmp : ∀ i u, [Value.int .i64 d.day, .int .i64 d.known, .int .i64 d.kind, .int .i64 d.subject, .int .i64 d.value][i]? = some u → World.cell? (w6.alloc (.cells #[.int .i64 d.day, .int .i64 d.known, .int .i64 d.kind, .int .i64 d.subject, .int .i64 d.value] 27)) ((⟨w6.heap.size, 0, none⟩ : Addr).add i) = some u := by
    intro i u' hu'
    have hp' : (⟨w6.heap.size, 0, none⟩ : Addr).add i = ⟨w6.heap.size, i, none⟩ := by unfold Addr.add; split <;> simp_all
    rw [hp', World.cell?_alloc_at _ _ _ _ (by simp), ← hu']
    simp
  have hrow : ∀ q, (Value.slice a4 n4 m4).ownBlock = some q → w.heap.size + 1 + 1 + 1 ≤ q := by
    intro q hq
    rcases OwnDecs.cases (base := w.heap.size + 1 + 1 + 1) hst6.own with ⟨h1, _⟩ | ⟨g, cap, h1, hge, _⟩
    · rw [h1] at hq; simp [Value.ownBlock] at hq
    · rw [h1] at hq; simp [Value.ownBlock] at hq; omega
  have hown : World.ownsRow (w6.alloc (.cells #[.int .i64 d.day, .int .i64 d.known, .int .i64 d.kind, .int .i64 d.subject, .int .i64 d.value] 27)) (w.heap.size + 1 + 1 + 1) 27 5 (.slice a4 n4 m4) ds.length (flat ds) := hst.own
  have hsz : w.heap.size + 1 + 1 + 1 ≤ (World.heap (w6.alloc (.cells #[.int .i64 d.day, .int .i64 d.known, .int .i64 d.kind, .int .i64 d.subject, .int .i64 d.value] 27))).size := hst.size
  have C2 := Lib.hid (show ∀ u ∈ [Value.int .i64 d.day, .int .i64 d.known, .int .i64 d.kind, .int .i64 d.subject, .int .i64 d.value], u.oneCell' = true from by intro u hu; simp at hu; rcases hu with rfl | rfl | rfl | rfl | rfl <;> rfl)
  have C3 := Lib.hid (show ds.length + 1 ≤ maxLen from by unfold maxLen; omega)
  have C4 := Lib.hid (show (ds.length + 1) * 40 ≤ 140737488355328 from by omega)
  have HO := Lib.hid hown
  have HT := Lib.hid htmp
  have HZ := Lib.hid hsz
  have HR := Lib.hid hrow
  have HS7 := Lib.hid hst
  obtain ⟨i0, hi, hz0, hz1', hz2⟩ := info_parts infoDec
  clear hown htmp hsz hrow hst hst6 HST hb6 hc5 hf5 d0 d1 d2 d3 d4 HF HSD
  go_wp2_with (at_builtin; (refine wpList_append_own _ rfl (.tmp 30) (.tmp 32) 23 rfl (w.heap.size + 1 + 1 + 1) 27 i0 (.agg #[.int .i64 0, .int .i64 0, .int .i64 0, .int .i64 0, .int .i64 0]) 5 40 Try.underlying23 hi hz0 hz1' hz2 rfl (by decide) (.slice a4 n4 m4) ds.length (flat ds) rfl HO.out ⟨w6.heap.size, 0, none⟩ 1 1 [Value.int .i64 d.day, .int .i64 d.known, .int .i64 d.kind, .int .i64 d.subject, .int .i64 d.value] rfl rfl HT.out C2.out C3.out C4.out HZ.out ?_); intro v' w8 hown' hgrow _; have hK := (Below.refl _ _).grown hgrow HZ.out HR.out; have hc8 := (hK.cell (p := ⟨w.heap.size, 0, none⟩) (by show w.heap.size < _; omega)).trans HS7.out.cell; have hf8 := (hK.frozen (p := ⟨w.heap.size, 0, none⟩) (by show w.heap.size < _; omega)).trans HS7.out.free; obtain ⟨u8, hu8⟩ := HS7.out.out; have ho8 := (hK.cell (p := ⟨w.heap.size + 1 + 1, 0, none⟩) (by show w.heap.size + 1 + 1 < _; omega)).trans hu8; have og8 := (hK.frozen (p := ⟨w.heap.size + 1 + 1, 0, none⟩) (by show w.heap.size + 1 + 1 < _; omega)).trans HS7.out.ofree; clear hu8; have HK := Lib.hid hK; have HW := Lib.hid hown'; clear hgrow hK; obtain ⟨g', cap', rfl⟩ := owns_succ' hown'; clear hown')
  have hne : w.heap.size ≠ w.heap.size + 1 + 1 := by omega
  have hq : World.cell? ((w8.setCell ⟨w.heap.size, 0, none⟩ (.slice (some ⟨g', 0, none⟩) (ds.length + 1) cap')).setCell ⟨w.heap.size + 1 + 1, 0, none⟩ (.slice (some ⟨g', 0, none⟩) (ds.length + 1) cap')) ⟨w.heap.size + 1 + 1, 0, none⟩ = some (.slice (some ⟨g', 0, none⟩) (ds.length + 1) cap') :=
    World.cell?_setCell_same _ _ _ (by rw [World.cell?_setCell_far _ _ _ _ hne]; exact ho8)
  have hb8 : Below w.heap.size w w8 := HS7.out.below.trans (HK.out.mono (by omega))
  have hB : Below w.heap.size w ((w8.setCell ⟨w.heap.size, 0, none⟩ (.slice (some ⟨g', 0, none⟩) (ds.length + 1) cap')).setCell ⟨w.heap.size + 1 + 1, 0, none⟩ (.slice (some ⟨g', 0, none⟩) (ds.length + 1) cap')) := (hb8.setCell (Nat.le_refl _) _).setCell (by show w.heap.size ≤ w.heap.size + 1 + 1; omega) _
  have hO8 : OwnDecs w8 (w.heap.size + 1 + 1 + 1) (.slice (some ⟨g', 0, none⟩) (ds.length + 1) cap') (ds ++ [d]) := by
    unfold OwnDecs
    rw [flat_snoc, show (ds ++ [d]).length = ds.length + 1 from by simp]
    exact HW.out
  have hO : OwnDecs ((w8.setCell ⟨w.heap.size, 0, none⟩ (.slice (some ⟨g', 0, none⟩) (ds.length + 1) cap')).setCell ⟨w.heap.size + 1 + 1, 0, none⟩ (.slice (some ⟨g', 0, none⟩) (ds.length + 1) cap')) w.heap.size (.slice (some ⟨g', 0, none⟩) (ds.length + 1) cap') (ds ++ [d]) :=
    hO8.kept' (by omega) fun k hk _ => (Below.heap_setCell _ _ _ _ (by show k ≠ w.heap.size + 1 + 1; omega)).trans (Below.heap_setCell _ _ _ _ (by show k ≠ w.heap.size; omega))
  exact bodyPost_ret (v := .tuple #[.agg #[.slice (some ⟨g', 0, none⟩) (ds.length + 1) cap'], .int .i64 0]) (by simp [results, Try.results19, go_sem, hq]) rfl ⟨_, rfl, hO, hB⟩
end Go.Proofs.Ytpjcaanlagibpaa

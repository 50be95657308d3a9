import Derived.Test.YtpjcaanlagibpaaAdd
namespace Go.Proofs.Ytpjcaanlagibpaa
open Go.RowKit
set_option linter.unusedSimpArgs false
set_option linter.unusedVariables false

set_option maxRecDepth 100000 in
set_option maxHeartbeats 4000000 in
theorem add_no (v : Value) (ds : List Dec) (d : Dec) (w : World) (h : SliceDecs w v ds) (hl : ds.length < 128) (hok : OKs ds) (c : Int) (hf : followsE ds d = c) (hc : c ≠ 0) :
    Calls Try.prog 19 #[.agg #[v], d.val] w fun e w' => AddOut ds c w e w' := by
  have hli : (ds.length : Int) < 128 := by omega
  have hfo := fun v w1 h1 => follows_val v ds d w1 h1 (by omega)
  rw [hf] at hfo
  unfold Dec.val at hfo ⊢
  have hck := fun v w1 h1 => check_val v ds w1 h1 (by omega)
  rw [hok.check 0] at hck
  have hcl := fun w1 h1 => clone_any v ds w1 h1 (by omega)
  have hcb : (c == 0) = false := by simp; exact hc
  have HF := Lib.hid hfo
  have HC := Lib.hid hck
  have HL := Lib.hid hcl
  have HS := Lib.hid h
  obtain ⟨a0, n0, c0, rfl⟩ : ∃ a n c, v = .slice a n c := by
    rcases h with ⟨rfl, _⟩ | ⟨g, cap, rfl, _⟩
    · exact ⟨_, _, _, rfl⟩
    · exact ⟨_, _, _, rfl⟩
  clear h hfo hck hcl hok hf hc
  go_enter Try.func19, Try.ntmps19
  go_wp2_with fail
  have hb3 : Below w.heap.size w (((w.alloc (.cells #[.slice a0 n0 c0] 25)).alloc (.cells #[.int .i64 d.day, .int .i64 d.known, .int .i64 d.kind, .int .i64 d.subject, .int .i64 d.value] 27)).alloc (.cells #[.slice none 0 0] 25)) := (((Below.refl _ _).alloc (Nat.le_refl _) _).alloc (by simp) _).alloc (by simp; omega) _
  have c0' : World.cell? (((w.alloc (.cells #[.slice a0 n0 c0] 25)).alloc (.cells #[.int .i64 d.day, .int .i64 d.known, .int .i64 d.kind, .int .i64 d.subject, .int .i64 d.value] 27)).alloc (.cells #[.slice none 0 0] 25)) ⟨w.heap.size, 0, none⟩ = some (.slice a0 n0 c0) := by
    rw [World.cell?_alloc_past _ _ _ (by simp; omega), World.cell?_alloc_past _ _ _ (by simp)]; exact World.cell?_alloc_at _ _ _ _ (by simp)
  have f0' : World.frozen? (((w.alloc (.cells #[.slice a0 n0 c0] 25)).alloc (.cells #[.int .i64 d.day, .int .i64 d.known, .int .i64 d.kind, .int .i64 d.subject, .int .i64 d.value] 27)).alloc (.cells #[.slice none 0 0] 25)) ⟨w.heap.size, 0, none⟩ = false := by
    rw [frozen?_alloc_cells, frozen?_alloc_cells, frozen?_alloc_cells]; exact frozen_beyond _ _ _ (by omega)
  have d0' : DecAt (((w.alloc (.cells #[.slice a0 n0 c0] 25)).alloc (.cells #[.int .i64 d.day, .int .i64 d.known, .int .i64 d.kind, .int .i64 d.subject, .int .i64 d.value] 27)).alloc (.cells #[.slice none 0 0] 25)) (w.heap.size + 1) 0 d := by
    unfold DecAt
    simp only [World.cell?_alloc_past (o := (.cells #[.slice none 0 0] 25)) (hn := show w.heap.size + 1 < ((w.alloc (.cells #[.slice a0 n0 c0] 25)).alloc (.cells #[.int .i64 d.day, .int .i64 d.known, .int .i64 d.kind, .int .i64 d.subject, .int .i64 d.value] 27)).heap.size by simp)]
    exact ⟨World.cell?_alloc_at _ _ _ _ (by simp), World.cell?_alloc_at _ _ _ _ (by simp), World.cell?_alloc_at _ _ _ _ (by simp), World.cell?_alloc_at _ _ _ _ (by simp), World.cell?_alloc_at _ _ _ _ (by simp)⟩
  have o0' : World.cell? (((w.alloc (.cells #[.slice a0 n0 c0] 25)).alloc (.cells #[.int .i64 d.day, .int .i64 d.known, .int .i64 d.kind, .int .i64 d.subject, .int .i64 d.value] 27)).alloc (.cells #[.slice none 0 0] 25)) ⟨w.heap.size + 1 + 1, 0, none⟩ = some (.slice none 0 0) := World.cell?_alloc_at _ _ _ _ (by simp)
  have g0' : World.frozen? (((w.alloc (.cells #[.slice a0 n0 c0] 25)).alloc (.cells #[.int .i64 d.day, .int .i64 d.known, .int .i64 d.kind, .int .i64 d.subject, .int .i64 d.value] 27)).alloc (.cells #[.slice none 0 0] 25)) ⟨w.heap.size + 1 + 1, 0, none⟩ = false := by
    rw [frozen?_alloc_cells, frozen?_alloc_cells, frozen?_alloc_cells]; exact frozen_beyond _ _ _ (by omega)
  have z3 : (((w.alloc (.cells #[.slice a0 n0 c0] 25)).alloc (.cells #[.int .i64 d.day, .int .i64 d.known, .int .i64 d.kind, .int .i64 d.subject, .int .i64 d.value] 27)).alloc (.cells #[.slice none 0 0] 25)).heap.size = w.heap.size + 1 + 1 + 1 := by simp
  have hs3 := HS.out.below hb3
  generalize (((w.alloc (.cells #[.slice a0 n0 c0] 25)).alloc (.cells #[.int .i64 d.day, .int .i64 d.known, .int .i64 d.kind, .int .i64 d.subject, .int .i64 d.value] 27)).alloc (.cells #[.slice none 0 0] 25)) = W3 at *
  refine (HL.out _ hs3).mono ?_
  rintro e w4 ⟨v4, rfl, hO4, hb4⟩
  have hx : w.heap.size < W3.heap.size := by omega
  have hx1 : w.heap.size + 1 < W3.heap.size := by omega
  have hx2 : w.heap.size + 1 + 1 < W3.heap.size := by omega
  have hc4 := (hb4.cell (p := ⟨w.heap.size, 0, none⟩) hx).trans c0'
  have hf4 := (hb4.frozen (p := ⟨w.heap.size, 0, none⟩) hx).trans f0'
  obtain ⟨a4, n4, m4, rfl⟩ := hO4.slice_val
  have hst : AddSt w (w4.setCell ⟨w.heap.size, 0, none⟩ (.slice a4 n4 m4)) (.slice a4 n4 m4) ds d := by
    refine ⟨(hb3.trans (hb4.mono hb3.size)).setCell (Nat.le_refl _) _, World.cell?_setCell_same _ _ _ hc4, by rw [World.frozen?_setCell]; exact hf4, ?_, ?_, ?_, ?_, ?_⟩
    · refine (d0'.of_cells (w' := w4.setCell ⟨w.heap.size, 0, none⟩ (.slice a4 n4 m4)) fun o => ?_)
      rw [World.cell?_setCell_far _ _ _ _ (by show w.heap.size ≠ w.heap.size + 1; omega)]
      exact hb4.cell (p := ⟨w.heap.size + 1, o, none⟩) hx1
    · exact ⟨_, by rw [World.cell?_setCell_far _ _ _ _ (by show w.heap.size ≠ w.heap.size + 1 + 1; omega)]; exact (hb4.cell (p := ⟨w.heap.size + 1 + 1, 0, none⟩) hx2).trans o0'⟩
    · rw [World.frozen?_setCell]; exact (hb4.frozen (p := ⟨w.heap.size + 1 + 1, 0, none⟩) hx2).trans g0'
    · have hO5 : OwnDecs (w4.setCell ⟨w.heap.size, 0, none⟩ (.slice a4 n4 m4)) W3.heap.size (.slice a4 n4 m4) ds := hO4.kept fun k hk _ => Below.heap_setCell _ _ _ _ (by show k ≠ w.heap.size; omega)
      rw [z3] at hO5
      exact hO5
    · rw [World.size_setCell]; have := hb4.size; omega
  clear hs3 z3 hb3 c0' f0' d0' o0' g0' hO4 hx hx1 hx2 HL HS
  have HST := Lib.hid hst
  clear hst hb4
  go_wp2_with fail
  have hsd : ∀ W, AddSt w W (.slice a4 n4 m4) ds d → SliceDecs W (.slice a4 n4 m4) ds := fun W h => OwnDecs.slice (base := w.heap.size + 1 + 1 + 1) h.own
  have HSD := Lib.hid hsd
  clear hsd
  refine (HC.out _ _ (HSD.out _ HST.out)).mono ?_
  rintro e w5 ⟨rfl, hb5⟩
  have hst := HST.out.mono hb5
  have hc5 := hst.cell
  have hf5 := hst.free
  obtain ⟨d0, d1, d2, d3, d4⟩ := hst.dec
  have hlen : (n4 : Int) = (ds.length : Int) := by
    rcases OwnDecs.cases (base := w.heap.size + 1 + 1 + 1) hst.own with ⟨h1, h2⟩ | ⟨g, cap, h1, _⟩
    · injection h1 with _ h3 _; rw [h2, h3]; rfl
    · injection h1 with _ h3 _; rw [h3]
  have hli4 : (n4 : Int) < 128 := by omega
  have hne4 : ((n4 : Int) == 128) = false := by simp; omega
  clear HST hb5 HC
  have HST := Lib.hid hst
  clear hst hlen
  go_wp2_with fail
  refine (HF.out _ _ (HSD.out _ HST.out)).mono ?_
  rintro e w6 ⟨rfl, hb6⟩
  have hst6 := HST.out.mono hb6
  have hc6 := hst6.cell
  have hf6 := hst6.free
  obtain ⟨u8, ho8⟩ := hst6.out
  have og8 := hst6.ofree
  have HS6 := Lib.hid hst6
  clear hst6 HST hb6 hc5 hf5 d0 d1 d2 d3 d4 HF HSD
  go_wp2_with fail
  have hq : World.cell? (w6.setCell ⟨w.heap.size + 1 + 1, 0, none⟩ (.slice a4 n4 m4)) ⟨w.heap.size + 1 + 1, 0, none⟩ = some (.slice a4 n4 m4) :=
    World.cell?_setCell_same _ _ _ ho8
  have hB : Below w.heap.size w (w6.setCell ⟨w.heap.size + 1 + 1, 0, none⟩ (.slice a4 n4 m4)) := HS6.out.below.setCell (by show w.heap.size ≤ w.heap.size + 1 + 1; omega) _
  have hO8 : OwnDecs w6 (w.heap.size + 1 + 1 + 1) (.slice a4 n4 m4) ds := HS6.out.own
  have hO : OwnDecs (w6.setCell ⟨w.heap.size + 1 + 1, 0, none⟩ (.slice a4 n4 m4)) w.heap.size (.slice a4 n4 m4) ds :=
    hO8.kept' (by omega) fun k hk _ => Below.heap_setCell _ _ _ _ (by show k ≠ w.heap.size + 1 + 1; omega)
  exact bodyPost_ret (v := .tuple #[.agg #[.slice a4 n4 m4], .int .i64 c]) (by simp [results, Try.results19, go_sem, hq]) rfl ⟨_, rfl, hO, hB⟩

/-- a ledger behind one more decision, if it can be the next one -/
def addOne (ds : List Dec) (d : Dec) : List Dec := if followsE ds d = 0 then ds ++ [d] else ds

theorem addOne_oks {ds : List Dec} {d : Dec} (h : OKs ds) : OKs (addOne ds d) := by
  unfold addOne
  by_cases hf : followsE ds d = 0
  · rw [if_pos hf]; exact h.snoc hf
  · rw [if_neg hf]; exact h
theorem addOne_length (ds : List Dec) (d : Dec) : (addOne ds d).length ≤ ds.length + 1 := by
  unfold addOne
  by_cases hf : followsE ds d = 0
  · rw [if_pos hf]; simp
  · rw [if_neg hf]; omega

theorem add_any (v : Value) (ds : List Dec) (d : Dec) (w : World) (h : SliceDecs w v ds) (hl : ds.length < 128) (hok : OKs ds) :
    Calls Try.prog 19 #[.agg #[v], d.val] w fun e w' => AddOut (addOne ds d) (followsE ds d) w e w' := by
  unfold addOne
  by_cases hf : followsE ds d = 0
  · rw [if_pos hf, hf]; exact add_ok v ds d w h hl hok hf
  · rw [if_neg hf]; exact add_no v ds d w h hl hok _ rfl hf
end Go.Proofs.Ytpjcaanlagibpaa

import Derived.Test.YtpjcaanlagibpaaOpen
namespace Go.Proofs.Ytpjcaanlagibpaa
open Go.RowKit
set_option linter.unusedSimpArgs false
set_option linter.unusedVariables false

def OpenN (n : Nat) (w : World) (e : Ending) (w' : World) : Prop := ∃ v : Value, e = .returned (.tuple #[v, .int .i64 (n : Int)]) ∧ Below w.heap.size w w'

theorem whole_any (s : ByteArray) (ds : List Dec) (w : World) (h : Reads s ds) (hl : 12 * ds.length ≤ s.size) (hs : s.size ≤ 1000000) :
    Calls Try.prog 51 #[.string s] w fun e w' => e = .returned (.string (s.extract 0 (12 * ds.length))) ∧ Below w.heap.size w w' := by
  obtain ⟨n, hn⟩ : ∃ n, 12 * ds.length = n := ⟨_, rfl⟩
  have HR := Lib.hid (fun w1 => (open_any s ds w1 h).mono (R' := fun e w' => OpenN n w1 e w') (fun e w' ⟨v, he, _, hb⟩ => ⟨v, by rw [he, hn], hb⟩))
  rw [hn] at hl ⊢
  have hl2 : (n : Int) ≤ (s.size : Int) := by omega
  have hl3 : (s.size : Int) ≤ 1000000 := by omega
  clear h hn
  go_enter Try.func51, Try.ntmps51
  go_wp2_with fail
  refine (HR.out _).mono ?_
  rintro e w1 ⟨v, rfl, hB⟩
  go_wp2_with fail
  go_ret
  exact ⟨rfl, hB⟩

set_option maxRecDepth 100000 in
set_option maxHeartbeats 4000000 in
theorem differ_some (g1 c1 g2 c2 : Nat) (ds : List Dec) (w : World) (h1 : g1 < w.heap.size) (h2 : g2 < w.heap.size) (d1 : DecsAt w g1 0 ds) (d2 : DecsAt w g2 0 ds) (hl : ds.length ≤ 100000) :
    Calls Try.prog 26 #[.agg #[.slice (some ⟨g1, 0, none⟩) ds.length c1], .agg #[.slice (some ⟨g2, 0, none⟩) ds.length c2]] w fun e w' => e = .returned (.tuple #[.int .i64 0, .bool false]) ∧ Below w.heap.size w w' := by
  have hli : (ds.length : Int) ≤ 100000 := by omega
  have HD1 := Lib.hid d1
  have HD2 := Lib.hid d2
  clear d1 d2
  go_enter Try.func26, Try.ntmps26
  go_wp2_with fail
  go_loopw [6] (fun i wr => ∃ k : Nat, k ≤ ds.length ∧ i = .int .i64 k ∧ Below (w.heap.size + 1 + 1) ((w.alloc (.cells #[.slice (some ⟨g1, 0, none⟩) ds.length c1] 25)).alloc (.cells #[.slice (some ⟨g2, 0, none⟩) ds.length c2] 25)) wr) (fun i _ => ds.length - (intOf i).toNat)
  case atStart => exact ⟨0, Nat.zero_le _, rfl, Below.refl _ _⟩
  case round =>
    obtain ⟨k, hk, rfl, hb⟩ := hrel
    have b0 : wr.cell? ⟨w.heap.size, 0, none⟩ = some (.slice (some ⟨g1, 0, none⟩) ds.length c1) := by
      rw [hb.cell (by show w.heap.size < _; omega), World.cell?_alloc_past _ _ _ (by simp)]; exact World.cell?_alloc_at _ _ _ _ rfl
    have b1 : wr.cell? ⟨w.heap.size + 1, 0, none⟩ = some (.slice (some ⟨g2, 0, none⟩) ds.length c2) := by
      rw [hb.cell (by show w.heap.size + 1 < _; omega)]; exact World.cell?_alloc_at _ _ _ _ (by simp)
    have hold : ∀ g o, g < w.heap.size → wr.cell? ⟨g, o, none⟩ = w.cell? ⟨g, o, none⟩ := by
      intro g o hg
      rw [hb.cell (by show g < _; omega), World.cell?_alloc_past _ _ _ (by simp; omega), World.cell?_alloc_past _ _ _ hg]
    have hsz := hb.size
    have hb2 : Below w.heap.size w wr := (((Below.refl _ _).alloc (Nat.le_refl _) _).alloc (by simp) _).trans (hb.mono (by omega))
    have HB := Lib.hid hb
    have HB2 := Lib.hid hb2
    have HO := Lib.hid hold
    clear hb hb2 hold
    by_cases hlt : k < ds.length
    · obtain ⟨x0, x1, x2, x3, x4⟩ := (HD1.out k hlt).of_cells (w' := wr) (fun o => HO.out g1 o h1)
      obtain ⟨y0, y1, y2, y3, y4⟩ := (HD2.out k hlt).of_cells (w' := wr) (fun o => HO.out g2 o h2)
      simp only [Nat.zero_add] at x0 x1 x2 x3 x4 y0 y1 y2 y3 y4
      have hlti : (k : Int) < (ds.length : Int) := by omega
      have hnlt : ¬ ((ds.length : Int) ≤ (k : Int)) := by omega
      have hd : decide (ds.length ≤ k) = false := by simp; omega
      go_wp2_with fail
      go_quiet (fail)
      have HBd := Lib.hid (below_drewN HB.out nq)
      clear x0 x1 x2 x3 x4 y0 y1 y2 y3 y4 b0 b1 hd
      generalize wr.drewN nq = wq at *
      go_wp2_with fail
      exact ⟨⟨k + 1, by omega, by go_num, HBd.out⟩, by simp [intOf]; omega⟩
    · have hge : ¬ ((k : Int) < (ds.length : Int)) := by omega
      have hge2 : decide (k < ds.length) = false := by simp; omega
      go_wp2_with fail
      go_ret2
      exact ⟨rfl, HB2.out⟩

set_option maxRecDepth 100000 in
theorem differ_empty (a1 a2 : Option Addr) (c1 c2 : Nat) (w : World) :
    Calls Try.prog 26 #[.agg #[.slice a1 0 c1], .agg #[.slice a2 0 c2]] w fun e w' => e = .returned (.tuple #[.int .i64 0, .bool false]) ∧ Below w.heap.size w w' := by
  go_enter Try.func26, Try.ntmps26
  go_wp2_with fail
  refine wp_loop_rounds 1 ?_
  rw [rounds_succ]
  go_wp2_with fail
  go_ret2
  exact ⟨rfl, ((Below.refl _ _).alloc (Nat.le_refl _) _).alloc (by simp) _⟩

theorem differ_any (v1 v2 : Value) (ds : List Dec) (w : World) (h1 : SliceDecs w v1 ds) (h2 : SliceDecs w v2 ds) (hl : ds.length ≤ 100000) :
    Calls Try.prog 26 #[.agg #[v1], .agg #[v2]] w fun e w' => e = .returned (.tuple #[.int .i64 0, .bool false]) ∧ Below w.heap.size w w' := by
  cases ds with
  | nil =>
    have e : ∀ v, SliceDecs w v [] → ∃ a c, v = .slice a 0 c := by
      intro v h
      rcases h with ⟨rfl, _⟩ | ⟨g, cap, rfl, _⟩
      · exact ⟨_, _, rfl⟩
      · exact ⟨_, _, rfl⟩
    obtain ⟨a1, c1, rfl⟩ := e v1 h1
    obtain ⟨a2, c2, rfl⟩ := e v2 h2
    exact differ_empty a1 a2 c1 c2 w
  | cons d ds =>
    rcases h1 with ⟨_, h⟩ | ⟨g1, c1, rfl, hg1, _, d1⟩
    · cases h
    rcases h2 with ⟨_, h⟩ | ⟨g2, c2, rfl, hg2, _, d2⟩
    · cases h
    exact differ_some g1 c1 g2 c2 (d :: ds) w hg1 hg2 d1 d2 hl

theorem same_any (v1 v2 : Value) (ds : List Dec) (w : World) (h1 : SliceDecs w v1 ds) (h2 : SliceDecs w v2 ds) (hl : ds.length ≤ 100000) :
    Calls Try.prog 21 #[.agg #[v1], .agg #[v2]] w fun e w' => e = .returned (.bool true) ∧ Below w.heap.size w w' := by
  have hb : Below w.heap.size w ((w.alloc (.cells #[v1] 25)).alloc (.cells #[v2] 25)) := ((Below.refl _ _).alloc (Nat.le_refl _) _).alloc (by simp) _
  have hd := differ_any v1 v2 ds _ (h1.below hb) (h2.below hb) hl
  have e : ∀ v, SliceDecs w v ds → ∃ a n c, v = .slice a n c := by
    intro v h
    rcases h with ⟨rfl, _⟩ | ⟨g, cap, rfl, _⟩
    · exact ⟨_, _, _, rfl⟩
    · exact ⟨_, _, _, rfl⟩
  obtain ⟨a1, n1, c1, rfl⟩ := e v1 h1
  obtain ⟨a2, n2, c2, rfl⟩ := e v2 h2
  have HD := Lib.hid hd
  have HB := Lib.hid hb
  clear hd hb h1 h2
  go_enter Try.func21, Try.ntmps21
  go_wp2_with fail
  refine HD.out.mono ?_
  rintro e w1 ⟨rfl, hb1⟩
  go_wp2_with fail
  go_ret
  exact ⟨rfl, HB.out.trans (hb1.mono HB.out.size)⟩

theorem samedecs_any (v1 v2 : Value) (ds : List Dec) (w : World) (h1 : SliceDecs w v1 ds) (h2 : SliceDecs w v2 ds) (hl : ds.length ≤ 100000) :
    Calls Try.prog 50 #[v1, v2] w fun e w' => e = .returned (.bool true) ∧ Below w.heap.size w w' := by
  have HS := Lib.hid (same_any v1 v2 ds w h1 h2 hl)
  have e : ∀ v, SliceDecs w v ds → ∃ a n c, v = .slice a n c := by
    intro v h
    rcases h with ⟨rfl, _⟩ | ⟨g, cap, rfl, _⟩
    · exact ⟨_, _, _, rfl⟩
    · exact ⟨_, _, _, rfl⟩
  obtain ⟨a1, n1, c1, rfl⟩ := e v1 h1
  obtain ⟨a2, n2, c2, rfl⟩ := e v2 h2
  clear h1 h2
  go_enter Try.func50, Try.ntmps50
  go_wp2_with fail
  refine HS.out.mono ?_
  rintro e w1 ⟨rfl, hb1⟩
  go_wp2_with fail
  go_ret
  exact ⟨rfl, hb1⟩
end Go.Proofs.Ytpjcaanlagibpaa

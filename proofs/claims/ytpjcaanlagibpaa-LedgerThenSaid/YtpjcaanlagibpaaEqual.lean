import Derived.Test.YtpjcaanlagibpaaSame
namespace Go.Proofs.Ytpjcaanlagibpaa
open Go.RowKit
set_option linter.unusedSimpArgs false
set_option linter.unusedVariables false

set_option maxRecDepth 100000 in
set_option maxHeartbeats 2000000 in
theorem equal_some (g1 c1 g2 c2 : Nat) (ds : List Dec) (w : World) (h1 : g1 < w.heap.size) (h2 : g2 < w.heap.size) (d1 : DecsAt w g1 0 ds) (d2 : DecsAt w g2 0 ds) (hl : ds.length ≤ 100000) :
    Calls Try.prog 61 #[.slice (some ⟨g1, 0, none⟩) ds.length c1, .slice (some ⟨g2, 0, none⟩) ds.length c2] w fun e w' => e = .returned (.bool true) ∧ Below w.heap.size w w' := by
  have hli : (ds.length : Int) ≤ 100000 := by omega
  have HD1 := Lib.hid d1
  have HD2 := Lib.hid d2
  clear d1 d2
  go_enter Try.func61, Try.ntmps61
  go_wp2_with fail
  go_loopw [13] (fun i wr => ∃ k : Nat, k ≤ ds.length ∧ i = .int .i64 k ∧ Below w.heap.size w wr) (fun i _ => ds.length - (intOf i).toNat)
  case atStart => exact ⟨0, Nat.zero_le _, rfl, Below.refl _ _⟩
  case round =>
    obtain ⟨k, hk, rfl, hb⟩ := hrel
    have HB := Lib.hid hb
    by_cases hlt : k < ds.length
    · obtain ⟨x0, x1, x2, x3, x4⟩ := (HD1.out k hlt).of_cells (w' := wr) (fun o => hb.cell (p := ⟨g1, o, none⟩) h1)
      obtain ⟨y0, y1, y2, y3, y4⟩ := (HD2.out k hlt).of_cells (w' := wr) (fun o => hb.cell (p := ⟨g2, o, none⟩) h2)
      simp only [Nat.zero_add] at x0 x1 x2 x3 x4 y0 y1 y2 y3 y4
      have hlti : (k : Int) < (ds.length : Int) := by omega
      have hsz := hb.size
      have hg1 : g1 < wr.heap.size := by omega
      have hg2 : g2 < wr.heap.size := by omega
      clear hb hsz
      go_wp2_with fail
      go_quiet (fail)
      have HBd := Lib.hid (below_drewN HB.out nq)
      clear x0 x1 x2 x3 x4 y0 y1 y2 y3 y4
      generalize wr.drewN nq = wq at *
      go_wp2_with fail
      exact ⟨⟨k + 1, by omega, by go_num, HBd.out⟩, by simp [intOf]; omega⟩
    · have hge : ¬ ((k : Int) < (ds.length : Int)) := by omega
      clear hb
      go_wp2_with fail
      go_ret
      exact ⟨rfl, HB.out⟩

theorem equal_none (a1 a2 : Option Addr) (c1 c2 : Nat) (w : World) :
    Calls Try.prog 61 #[.slice a1 0 c1, .slice a2 0 c2] w fun e w' => e = .returned (.bool true) ∧ Below w.heap.size w w' := by
  go_enter Try.func61, Try.ntmps61
  go_wp2_with fail
  refine wp_loop_rounds 1 ?_
  rw [rounds_succ]
  go_wp2_with fail
  go_ret
  exact ⟨rfl, Below.refl _ _⟩
theorem equal_any (v1 v2 : Value) (ds : List Dec) (w : World) (h1 : SliceDecs w v1 ds) (h2 : SliceDecs w v2 ds) (hl : ds.length ≤ 100000) :
    Calls Try.prog 61 #[v1, v2] w fun e w' => e = .returned (.bool true) ∧ Below w.heap.size w w' := by
  cases ds with
  | nil =>
    have e : ∀ v, SliceDecs w v [] → ∃ a c, v = .slice a 0 c := by
      intro v h
      rcases h with ⟨rfl, _⟩ | ⟨g, cap, rfl, _⟩
      · exact ⟨_, _, rfl⟩
      · exact ⟨_, _, rfl⟩
    obtain ⟨a1, c1, rfl⟩ := e v1 h1
    obtain ⟨a2, c2, rfl⟩ := e v2 h2
    exact equal_none a1 a2 c1 c2 w
  | cons d ds =>
    rcases h1 with ⟨_, h⟩ | ⟨g1, c1, rfl, hg1, _, d1⟩
    · cases h
    rcases h2 with ⟨_, h⟩ | ⟨g2, c2, rfl, hg2, _, d2⟩
    · cases h
    exact equal_some g1 c1 g2 c2 (d :: ds) w hg1 hg2 d1 d2 hl

theorem lsame_any (v1 v2 : Value) (ds : List Dec) (w : World) (h1 : SliceDecs w v1 ds) (h2 : SliceDecs w v2 ds) (hl : ds.length ≤ 100000) :
    Calls Try.prog 24 #[.agg #[v1], .agg #[v2]] w fun e w' => e = .returned (.bool true) ∧ Below w.heap.size w w' := by
  have hb : Below w.heap.size w ((w.alloc (.cells #[v1] 25)).alloc (.cells #[v2] 25)) := ((Below.refl _ _).alloc (Nat.le_refl _) _).alloc (by simp) _
  have hq := equal_any v1 v2 ds _ ((h1.below hb).below ((Below.refl _ _).drew)) ((h2.below hb).below ((Below.refl _ _).drew)) hl
  have e : ∀ v, SliceDecs w v ds → ∃ a n c, v = .slice a n c := by
    intro v h
    rcases h with ⟨rfl, _⟩ | ⟨g, cap, rfl, _⟩
    · exact ⟨_, _, _, rfl⟩
    · exact ⟨_, _, _, rfl⟩
  have HE := Lib.hid (fun W hW1 hW2 => equal_any v1 v2 ds W hW1 hW2 hl)
  have HS1 := Lib.hid (h1.below hb)
  have HS2 := Lib.hid (h2.below hb)
  obtain ⟨a1, n1, c1, rfl⟩ := e v1 h1
  obtain ⟨a2, n2, c2, rfl⟩ := e v2 h2
  have HB := Lib.hid hb
  clear hb hq h1 h2 e
  go_enter Try.func24, Try.ntmps24
  go_wp2_with fail
  refine (HE.out _ HS1.out HS2.out).mono ?_
  rintro e w1 ⟨rfl, hb1⟩
  go_wp2_with fail
  go_ret
  exact ⟨rfl, HB.out.trans (hb1.mono HB.out.size)⟩
end Go.Proofs.Ytpjcaanlagibpaa

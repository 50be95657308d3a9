import Derived.Test.YtpjcaanlagibpaaRepF
import Derived.Test.YtpjcaanlagibpaaRefA
namespace Go.Proofs.Ytpjcaanlagibpaa
open Go.RowKit
set_option linter.unusedSimpArgs false
set_option linter.unusedVariables false

/-! ## Which decisions are up to a day -/

theorem OKs.days {ds : List Dec} (h : OKs ds) : ∀ {i j : Nat} (hij : i ≤ j) (hj : j < ds.length), (ds[i]'(by omega)).day ≤ ds[j].day := by
  intro i j hij hj
  induction j with
  | zero =>
    have : i = 0 := by omega
    subst this
    exact Int.le_refl _
  | succ j ih =>
    rcases Nat.lt_or_ge i (j + 1) with hlt | hge
    · have h1 := ih (by omega) (by omega)
      have h2 := (h.next hj (by omega)).1
      simp only [Nat.add_sub_cancel] at h2
      omega
    · have : i = j + 1 := by omega
      subst this
      exact Int.le_refl _

set_option maxRecDepth 100000 in
set_option maxHeartbeats 4000000 in
theorem later_any (B g cap i : Nat) (ds : List Dec) (day : Int) (w : World) (hi : i < ds.length) (hl : ds.length ≤ 1000) (hc : w.cell? ⟨B, 0, none⟩ = some (.slice (some ⟨g, 0, none⟩) ds.length cap)) (hd : w.cell? ⟨B + 1, 0, none⟩ = some (.int .i64 day)) (hm : DecsAt w g 0 ds) :
    Calls Try.prog 74 #[.int .i64 i, .pointer (some ⟨B, 0, none⟩), .pointer (some ⟨B + 1, 0, none⟩)] w fun e w' => e = .returned (.bool (decide (day < ds[i].day))) ∧ ∃ n, w' = w.drewN n := by
  obtain ⟨c0, _, _, _, _⟩ := hm i hi
  simp only [Nat.zero_add] at c0
  have hii : (i : Int) < (ds.length : Int) := by omega
  have hli : (ds.length : Int) ≤ 1000 := by omega
  generalize ds[i].day = x at *
  clear hm
  go_enter Try.func74, Try.ntmps74
  go_wp2_with fail
  go_quiet (fail)
  go_wp2_with fail
  go_ret
  exact ⟨rfl, nq, rfl⟩

def UpTo (ds : List Dec) (day : Int) (a b : Nat) : Prop := a ≤ b ∧ b ≤ ds.length ∧ (∀ x (h : x < ds.length), x < a → ds[x].day ≤ day) ∧ (∀ x (h : x < ds.length), b ≤ x → day < ds[x].day)

set_option maxRecDepth 100000 in
set_option maxHeartbeats 1000000 in
theorem search_any (B g cap : Nat) (ds : List Dec) (day : Int) (w : World) (hg : g < w.heap.size) (hB : B + 1 < w.heap.size) (hok : OKs ds) (hl : ds.length ≤ 1000) (hc : w.cell? ⟨B, 0, none⟩ = some (.slice (some ⟨g, 0, none⟩) ds.length cap)) (hd : w.cell? ⟨B + 1, 0, none⟩ = some (.int .i64 day)) (hm : DecsAt w g 0 ds) :
    Calls Try.prog 73 #[.int .i64 ds.length, .func (.func 74) #[] #[.pointer (some ⟨B, 0, none⟩), .pointer (some ⟨B + 1, 0, none⟩)]] w fun e w' => ∃ n : Nat, UpTo ds day n n ∧ e = .returned (.int .i64 n) ∧ Below w.heap.size w w' := by
  have hli : (ds.length : Int) ≤ 1000 := by omega
  have HM := Lib.hid hm
  have HC := Lib.hid hc
  have HD := Lib.hid hd
  have HOK := Lib.hid hok
  clear hm hc hd hok
  go_enter Try.func73, Try.ntmps73
  go_wp2_with fail
  go_loopw [5, 6, 7] (fun i j _ wr => ∃ a b : Nat, UpTo ds day a b ∧ i = .int .i64 a ∧ j = .int .i64 b ∧ Below w.heap.size w wr) (fun i j _ _ => (intOf j - intOf i).toNat)
  case atStart => exact ⟨0, ds.length, ⟨Nat.zero_le _, Nat.le_refl _, fun x h h0 => by omega, fun x h h0 => by omega⟩, rfl, rfl, Below.refl _ _⟩
  case round =>
    obtain ⟨a, b, hu, rfl, rfl, hbe⟩ := hrel
    have hab := hu.1
    have hbl := hu.2.1
    have HU := Lib.hid hu
    clear hu
    by_cases hlt : a < b
    · have hlti : (a : Int) < (b : Int) := by omega
      have hbi : (b : Int) ≤ 1000 := by omega
      have hh : (a + b) / 2 < ds.length := by omega
      have HL := Lib.hid (later_any B g cap ((a + b) / 2) ds day wr hh hl ((hbe.cell (p := ⟨B, 0, none⟩) (by show B < _; omega)).trans HC.out) ((hbe.cell (p := ⟨B + 1, 0, none⟩) hB).trans HD.out) (HM.out.below hg hbe))
      have hhi : ((a : Int) + (b : Int)) / 2 = (((a + b) / 2 : Nat) : Int) := by omega
      have hm1 : a ≤ (a + b) / 2 := by omega
      have hm2 : (a + b) / 2 < b := by omega
      have HBE := Lib.hid hbe
      clear hbe
      by_cases hx : day < ds[(a + b) / 2].day
      · have hdec : decide (day < ds[(a + b) / 2].day) = true := decide_eq_true hx
        rw [hdec] at HL
        have HN := Lib.hid (show UpTo ds day a ((a + b) / 2) from ⟨hm1, by omega, HU.out.2.2.1, fun x h hxx => by
          have h1 := HOK.out.days hxx h
          omega⟩)
        clear hdec hx
        generalize (a + b) / 2 = h at *
        go_wp2_with fail
        refine HL.out.mono ?_
        rintro e w1 ⟨rfl, nq, rfl⟩
        clear hhi
        go_wp2_with fail
        exact ⟨⟨a, h, HN.out, rfl, rfl, below_drewN HBE.out _⟩, by simp [intOf]; omega⟩
      · have hdec : decide (day < ds[(a + b) / 2].day) = false := decide_eq_false hx
        rw [hdec] at HL
        have HN := Lib.hid (show UpTo ds day ((a + b) / 2 + 1) b from ⟨hm2, hbl, fun x h hxx => by
          have h1 := HOK.out.days (show x ≤ (a + b) / 2 by omega) hh
          omega, HU.out.2.2.2⟩)
        clear hdec hx
        generalize (a + b) / 2 = h at *
        go_wp2_with fail
        refine HL.out.mono ?_
        rintro e w1 ⟨rfl, nq, rfl⟩
        clear hhi
        go_wp2_with fail
        exact ⟨⟨h + 1, b, HN.out, by go_num, rfl, below_drewN HBE.out _⟩, by simp [intOf]; omega⟩
    · have heq : a = b := by omega
      subst heq
      have hlti : ¬ (a : Int) < (a : Int) := by omega
      go_wp2_with fail
      go_ret
      exact ⟨a, HU.out, rfl, hbe⟩

set_option maxRecDepth 100000 in
set_option maxHeartbeats 4000000 in
theorem until_some (g cap : Nat) (ds : List Dec) (day : Int) (w : World) (hg : g < w.heap.size) (hd : DecsAt w g 0 ds) (hok : OKs ds) (hl : ds.length ≤ 1000) (hcap : ds.length ≤ cap) :
    Calls Try.prog 63 #[.agg #[.slice (some ⟨g, 0, none⟩) ds.length cap], .int .i64 day] w fun e w' => ∃ n, n ≤ ds.length ∧ (∀ i (h : i < ds.length), ds[i].day ≤ day ↔ i < n) ∧ e = .returned (.slice (some ⟨g, 0, none⟩) n cap) ∧ Below w.heap.size w w' := by
  go_enter Try.func63, Try.ntmps63
  go_wp2_with fail
  have hb2 : Below w.heap.size w ((w.alloc (.cells #[.slice (some ⟨g, 0, none⟩) ds.length cap] 25)).alloc (.cells #[.int .i64 day] 3)) := ((Below.refl _ _).alloc (Nat.le_refl _) _).alloc (by simp) _
  have hc2 : World.cell? ((w.alloc (.cells #[.slice (some ⟨g, 0, none⟩) ds.length cap] 25)).alloc (.cells #[.int .i64 day] 3)) ⟨w.heap.size, 0, none⟩ = some (.slice (some ⟨g, 0, none⟩) ds.length cap) := by
    rw [World.cell?_alloc_past _ _ _ (by simp)]; exact World.cell?_alloc_at _ _ _ _ (by simp)
  have hd2 : World.cell? ((w.alloc (.cells #[.slice (some ⟨g, 0, none⟩) ds.length cap] 25)).alloc (.cells #[.int .i64 day] 3)) ⟨w.heap.size + 1, 0, none⟩ = some (.int .i64 day) := World.cell?_alloc_at _ _ _ _ (by simp)
  have hz2 : w.heap.size + 1 < (World.heap ((w.alloc (.cells #[.slice (some ⟨g, 0, none⟩) ds.length cap] 25)).alloc (.cells #[.int .i64 day] 3))).size := by simp
  have hm2 := hd.below hg hb2
  have hg2 : g < (World.heap ((w.alloc (.cells #[.slice (some ⟨g, 0, none⟩) ds.length cap] 25)).alloc (.cells #[.int .i64 day] 3))).size := by omega
  have hli : (ds.length : Int) ≤ 1000 := by omega
  generalize ((w.alloc (.cells #[.slice (some ⟨g, 0, none⟩) ds.length cap] 25)).alloc (.cells #[.int .i64 day] 3)) = W2 at *
  refine (search_any w.heap.size g cap ds day W2 hg2 hz2 hok hl hc2 hd2 hm2).mono ?_
  rintro e w3 ⟨n, hu, rfl, hb3⟩
  have hc3 := (hb3.cell (p := ⟨w.heap.size, 0, none⟩) (by show w.heap.size < _; omega)).trans hc2
  have hnl : (n : Int) ≤ (cap : Int) := by have := hu.2.1; omega
  have hn0 : (0 : Int) ≤ (n : Int) := by omega
  have HU := Lib.hid hu
  have HB := Lib.hid (hb2.trans (hb3.mono hb2.size))
  clear hu hb2 hb3 hc2 hd2 hm2 hz2
  go_wp2_with fail
  go_ret
  refine ⟨n, HU.out.2.1, ?_, rfl, HB.out⟩
  intro i h
  refine ⟨fun hle => ?_, fun hlt => HU.out.2.2.1 i h hlt⟩
  rcases Nat.lt_or_ge i n with h1 | h1
  · exact h1
  · have := HU.out.2.2.2 i h h1
    omega
end Go.Proofs.Ytpjcaanlagibpaa

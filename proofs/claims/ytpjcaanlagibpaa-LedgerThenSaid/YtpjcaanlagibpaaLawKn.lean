import Derived.Test.YtpjcaanlagibpaaKnw
namespace Go.Proofs.Ytpjcaanlagibpaa
open Go.RowKit
set_option linter.unusedSimpArgs false
set_option linter.unusedVariables false

theorem SliceDecs.form {w : World} {v : Value} {ds : List Dec} (h : SliceDecs w v ds) : ∃ a m, v = .slice a ds.length m := by
  rcases h with ⟨rfl, rfl⟩ | ⟨g, cap, rfl, _⟩
  · exact ⟨_, _, rfl⟩
  · exact ⟨_, _, rfl⟩

/-- what a law's drawn ledger is, boxed -/
structure Drawn (w W : World) (B : Nat) (a : Option Addr) (m : Nat) (ds : List Dec) (most : Nat) : Prop where
  below : Below w.heap.size w W
  sd : SliceDecs W (.slice a ds.length m) ds
  cell : W.cell? ⟨B, 0, none⟩ = some (.slice a ds.length m)
  lt : B < W.heap.size
  ge : w.heap.size ≤ B
  oks : OKs ds
  len : ds.length ≤ most

theorem Drawn.step {w W W' : World} {B : Nat} {a : Option Addr} {m : Nat} {ds : List Dec} {most : Nat} (h : Drawn w W B a m ds most) (hb : Below W.heap.size W W') : Drawn w W' B a m ds most :=
  ⟨h.below.trans (hb.mono h.below.size), h.sd.below hb, (hb.cell (p := ⟨B, 0, none⟩) h.lt).trans h.cell, Nat.lt_of_lt_of_le h.lt hb.size, h.ge, h.oks, h.len⟩

set_option maxRecDepth 100000 in
set_option maxHeartbeats 1000000 in
theorem lknown_heavy (a : Option Addr) (len cap : Nat) (w : World) (hl : 400 < len) (hm : (len : Int) ≤ 9223372036854775807) :
    Calls Try.prog 7 #[.slice a len cap] w fun e w' => e = .returned (.bool true) ∧ Below w.heap.size w w' := by
  have h1 := fun w1 => light_any a len cap w1 hm
  have hd : decide (len ≤ 400) = false := decide_eq_false (by omega)
  rw [hd] at h1
  have H1 := Lib.hid h1
  clear h1
  go_enter Try.func7, Try.ntmps7
  go_wp2_with fail
  refine (H1.out _).mono ?_
  rintro e w1 ⟨rfl, rfl⟩
  go_wp2_with fail
  refine (wake_any _).mono ?_
  rintro e w1 ⟨rfl, hb⟩
  have HB := Lib.hid hb
  clear hb
  go_wp2_with fail
  go_ret
  exact ⟨rfl, HB.out⟩

set_option maxRecDepth 100000 in
set_option maxHeartbeats 4000000 in
theorem lknown_light (a : Option Addr) (len cap : Nat) (w : World) (hl : len ≤ 400) (hr : RowAt w w.heap.size a len) :
    Calls Try.prog 7 #[.slice a len cap] w fun e w' => e = .returned (.bool true) ∧ Below w.heap.size w w' := by
  have h1 := fun w1 => light_any a len cap w1 (by omega)
  have hd : decide (len ≤ 400) = true := decide_eq_true (by omega)
  rw [hd] at h1
  have H1 := Lib.hid h1
  have H2 := Lib.hid (roll_any a len cap w hl hr)
  clear h1 hr hd
  go_enter Try.func7, Try.ntmps7
  go_wp2_with fail
  refine (H1.out _).mono ?_
  rintro e w1 ⟨rfl, rfl⟩
  go_wp2_with fail
  refine H2.out.mono ?_
  rintro e w1 ⟨rfl, hb1, hz1, hd1⟩
  have H3 := Lib.hid (ledger_any w.heap.size 14 w1 hd1 (by omega))
  clear hd1
  go_wp2_with fail
  refine H3.out.mono ?_
  rintro e w2 ⟨v, ds, rfl, hoks, hlen, hown, hdg⟩
  have hb2 : Below w.heap.size w w2 := hb1.trans (hdg.below (Nat.le_refl _) hb1.size)
  have hsd := hown.slice
  obtain ⟨ad, m, rfl⟩ := hsd.form
  clear hown hb1 hz1 hdg H1 H2 H3
  have hbx : Below w2.heap.size w2 (w2.alloc (.cells #[.slice ad ds.length m] 25)) := (Below.refl _ _).alloc (Nat.le_refl _) _
  have HDR := Lib.hid (show Drawn w (w2.alloc (.cells #[.slice ad ds.length m] 25)) w2.heap.size ad m ds 14 from ⟨hb2.alloc hb2.size _, hsd.below hbx, World.cell?_alloc_at _ _ _ _ rfl, by simp, hb2.size, hoks, hlen⟩)
  clear hb2 hsd hbx hoks hlen
  go_wp2_with fail
  generalize w2.alloc (.cells #[.slice ad ds.length m] 25) = W2 at *
  generalize w2.heap.size = B2 at *
  go_loopw [4, 5] (fun l j wr => ∃ k : Nat, k ≤ 32 ∧ l = .int .i64 (prevK ds k) ∧ j = .int .i64 k ∧ Below W2.heap.size W2 wr) (fun _ j _ => 32 - (intOf j).toNat)
  case atStart => exact ⟨0, by omega, rfl, rfl, Below.refl _ _⟩
  case round =>
    obtain ⟨k, hk, rfl, rfl, hb⟩ := hrel
    have HDR2 := Lib.hid (HDR.out.step hb)
    have HB := Lib.hid hb
    clear hb
    by_cases hlt : k < 32
    · have hlti : (k : Int) < 32 := by omega
      have hc := HDR2.out.cell
      have hle := prevK_le HDR2.out.oks k
      have hbd := knownF_bound (upTo_oks HDR2.out.oks (k : Int))
      have HK := Lib.hid (known_any (.slice ad ds.length m) ds (k : Int) wr HDR2.out.sd HDR2.out.oks (by have := HDR2.out.len; omega))
      have HPS := Lib.hid (prevK_succ ds k)
      have HWA := Lib.hid (wantK_all HDR2.out.oks (k : Int))
      generalize prevK ds k = pk at *
      generalize hkf : knownF (upTo ds (k : Int)) = kf at *
      clear hkf
      go_wp2_with fail
      refine HK.out.mono ?_
      rintro e w3 ⟨rfl, hb3⟩
      have HDR3 := Lib.hid (HDR2.out.step hb3)
      have HB3 := Lib.hid (HB.out.trans (hb3.mono HB.out.size))
      have hc3 := HDR3.out.cell
      clear hb3 hc HK HB HDR2
      go_wp2_with fail
      go_loopw [7, 27] (fun x j wr => ∃ i : Nat, i ≤ ds.length ∧ x = .int .i64 (wantK ds k i) ∧ j = .int .i64 i ∧ Below W2.heap.size W2 wr) (fun _ j _ => ds.length - (intOf j).toNat)
      case atStart => exact ⟨0, by omega, rfl, rfl, HB3.out⟩
      case round =>
        obtain ⟨i, hi, rfl, rfl, hb⟩ := hrel
        by_cases hil : i < ds.length
        · have hili : (i : Int) < (ds.length : Int) := by omega
          have hws := wantK_succ (day := (k : Int)) hil
          obtain ⟨g, hg, hdc⟩ : ∃ g, ad = some ⟨g, 0, none⟩ ∧ DecAt wr g (0 + i * 5) ds[i] := by
            have h4 := (HDR.out.sd).below hb
            rcases h4 with ⟨_, h5⟩ | ⟨g, cap2, h5, _, _, h6⟩
            · exact absurd h5 (by intro e; rw [e] at hil; simp at hil)
            · injection h5 with h7 h8 h9
              exact ⟨g, h7, h6 i hil⟩
          subst hg
          obtain ⟨x0, x1, x2, x3, x4⟩ := hdc
          simp only [Nat.zero_add] at x0 x1 x2 x3 x4
          have hi14 : (i : Int) ≤ 14 := by have := HDR.out.len; omega
          have HBi := Lib.hid (hb.alloc hb.size (.cells #[.int .i64 ds[i].day, .int .i64 ds[i].known, .int .i64 ds[i].kind, .int .i64 ds[i].subject, .int .i64 ds[i].value] 27))
          generalize ds[i] = d at *
          clear hb
          by_cases hday : d.day ≤ (k : Int)
          · rw [if_pos hday] at hws
            have HWS := Lib.hid hws
            clear hws
            go_wp2_with fail
            exact ⟨⟨i + 1, by omega, congrArg _ HWS.out.symm, by go_num, HBi.out⟩, by simp [intOf]; omega⟩
          · rw [if_neg hday] at hws
            have HWS := Lib.hid hws
            clear hws
            go_wp2_with fail
            exact ⟨⟨i + 1, by omega, congrArg _ HWS.out.symm, by go_num, HBi.out⟩, by simp [intOf]; omega⟩
        · have hie : i = ds.length := by omega
          subst hie
          rw [HWA.out]
          have hge : ¬ ((ds.length : Int) < (ds.length : Int)) := by omega
          have HBo := Lib.hid hb
          clear hb
          go_wp2_with fail
          exact ⟨⟨k + 1, by omega, congrArg _ HPS.out.symm, by go_num, HBo.out⟩, by simp [intOf]; omega⟩
    · have hk2 : k = 32 := by omega
      subst hk2
      go_wp2_with fail
      refine (wake_any _).mono ?_
      rintro e w4 ⟨rfl, hb4⟩
      have HF := Lib.hid (HDR2.out.below.trans (hb4.mono HDR2.out.below.size))
      clear hb4
      go_wp2_with fail
      go_ret
      exact ⟨rfl, HF.out⟩
end Go.Proofs.Ytpjcaanlagibpaa

import Derived.Test.YtpjcaanlagibpaaLDif
import Derived.Test.YtpjcaanlagibpaaLawCh
namespace Go.Proofs.Ytpjcaanlagibpaa
open Go.RowKit
set_option linter.unusedSimpArgs false
set_option linter.unusedVariables false

theorem upTo_upTo (ds : List Dec) {a b : Int} (h : a ≤ b) : upTo (upTo ds a) b = upTo ds a := by
  unfold upTo
  rw [List.filter_filter]
  congr 1
  funext d
  by_cases hd : d.day ≤ a
  · simp [hd]; omega
  · simp [hd]

theorem latest_day {ds : List Dec} {n k s : Int} {d : Dec} (h : latestOf (upTo ds n) k s = some d) : d.day ≤ n := by
  have hm := List.mem_of_find?_eq_some h
  have : d ∈ upTo ds n := by simpa using hm
  unfold upTo at this
  simpa using (List.mem_filter.1 this).2

theorem upTo_take {ds : List Dec} (hok : OKs ds) (n : Int) : upTo ds n = ds.take (upTo ds n).length := by
  obtain ⟨p, hp, e, _⟩ := upTo_cut hok n
  have hl : (upTo ds n).length = p := by rw [e]; simp; omega
  rw [hl, e]

/-- the law's ledger and what it was then, boxed -/
structure Both (w W : World) (B2 B3 : Nat) (ad a3 : Option Addr) (m m3 : Nat) (ds ts : List Dec) : Prop where
  below : Below w.heap.size w W
  sd : SliceDecs W (.slice ad ds.length m) ds
  sd3 : SliceDecs W (.slice a3 ts.length m3) ts
  cell : W.cell? ⟨B2, 0, none⟩ = some (.slice ad ds.length m)
  cell3 : W.cell? ⟨B3, 0, none⟩ = some (.slice a3 ts.length m3)
  lt : B2 < W.heap.size
  lt3 : B3 < W.heap.size

theorem Both.step {w W W' : World} {B2 B3 : Nat} {ad a3 : Option Addr} {m m3 : Nat} {ds ts : List Dec} (h : Both w W B2 B3 ad a3 m m3 ds ts) (hb : Below W.heap.size W W') : Both w W' B2 B3 ad a3 m m3 ds ts :=
  ⟨h.below.trans (hb.mono h.below.size), h.sd.below hb, h.sd3.below hb, (hb.cell (p := ⟨B2, 0, none⟩) h.lt).trans h.cell, (hb.cell (p := ⟨B3, 0, none⟩) h.lt3).trans h.cell3, Nat.lt_of_lt_of_le h.lt hb.size, Nat.lt_of_lt_of_le h.lt3 hb.size⟩

set_option maxRecDepth 100000 in
set_option maxHeartbeats 1000000 in
theorem lthen_heavy (a : Option Addr) (len cap y : Nat) (w : World) (hl : 400 < len) (hm : (len : Int) ≤ 9223372036854775807) :
    Calls Try.prog 4 #[.slice a len cap, .int .u8 y] w fun e w' => e = .returned (.bool true) ∧ Below w.heap.size w w' := by
  have h1 := fun w1 => light_any a len cap w1 hm
  have hd : decide (len ≤ 400) = false := decide_eq_false (by omega)
  rw [hd] at h1
  have H1 := Lib.hid h1
  clear h1
  go_enter Try.func4, Try.ntmps4
  go_wp2_with fail
  refine (H1.out _).mono ?_
  rintro e w1 ⟨rfl, rfl⟩
  go_wp2_with fail
  refine (wake_any _).mono ?_
  rintro e w1 ⟨rfl, hb⟩
  have HB := Lib.hid hb
  clear hb
  go_wp2_with fail
  go_ret
  exact ⟨rfl, HB.out⟩

set_option maxRecDepth 100000 in
set_option maxHeartbeats 2000000 in
theorem lthen_light (a : Option Addr) (len cap y : Nat) (w : World) (hl : len ≤ 400) (hr : RowAt w w.heap.size a len) (hy : y < 256) :
    Calls Try.prog 4 #[.slice a len cap, .int .u8 y] w fun e w' => e = .returned (.bool true) ∧ Below w.heap.size w w' := by
  have h1 := fun w1 => light_any a len cap w1 (by omega)
  have hd : decide (len ≤ 400) = true := decide_eq_true (by omega)
  rw [hd] at h1
  have H1 := Lib.hid h1
  have H2 := Lib.hid (roll_any a len cap w hl hr)
  have hyi : (y : Int) < 256 := by omega
  clear h1 hr hd
  go_enter Try.func4, Try.ntmps4
  go_wp2_with fail
  refine (H1.out _).mono ?_
  rintro e w1 ⟨rfl, rfl⟩
  go_wp2_with fail
  refine H2.out.mono ?_
  rintro e w1 ⟨rfl, hb1, hz1, hd1⟩
  have H3 := Lib.hid (ledger_any w.heap.size 14 w1 hd1 (by omega))
  clear hd1
  go_wp2_with fail
  refine H3.out.mono ?_
  rintro e w2 ⟨v, ds, rfl, hoks, hlen, hown, hdg⟩
  have hb2 : Below w.heap.size w w2 := hb1.trans (hdg.below (Nat.le_refl _) hb1.size)
  have hsd := hown.slice
  obtain ⟨ad, m, rfl⟩ := hsd.form
  clear hown hb1 hz1 hdg H1 H2 H3
  have hbx : Below w2.heap.size w2 (w2.alloc (.cells #[.slice ad ds.length m] 25)) := (Below.refl _ _).alloc (Nat.le_refl _) _
  have HDR := Lib.hid (show Drawn w (w2.alloc (.cells #[.slice ad ds.length m] 25)) w2.heap.size ad m ds 14 from ⟨hb2.alloc hb2.size _, hsd.below hbx, World.cell?_alloc_at _ _ _ _ rfl, by simp, hb2.size, hoks, hlen⟩)
  have hnn : (y : Int) % 20 = ((y % 20 : Nat) : Int) := by omega
  have HNN := Lib.hid hnn
  clear hb2 hsd hbx hoks hlen hnn
  go_wp2_with fail
  rw [HNN.out]
  have hnb : y % 20 < 20 := by omega
  generalize (y % 20 : Nat) = nn at *
  have hnbi : (nn : Int) < 20 := by omega
  generalize w2.alloc (.cells #[.slice ad ds.length m] 25) = W2 at *
  generalize w2.heap.size = B2 at *
  have hl14 := HDR.out.len
  refine (then_any (.slice ad ds.length m) ds nn W2 HDR.out.sd HDR.out.oks (by omega)).mono ?_
  rintro e w3 ⟨u, rfl, hO3, hb3⟩
  have HDR3 := Lib.hid (HDR.out.step hb3)
  have hs3 := hO3.slice
  obtain ⟨a3, m3, rfl⟩ := hs3.form
  have HTK := Lib.hid (upTo_take HDR.out.oks nn)
  have HTO := Lib.hid (upTo_oks HDR.out.oks nn)
  have HUU := Lib.hid (fun (b : Int) (h : (nn : Int) ≤ b) => upTo_upTo ds h)
  have htl := upTo_length ds nn
  have HLD := Lib.hid (fun k s d (h : latestOf (upTo ds nn) k s = some d) => latest_day h)
  have HL1 := Lib.hid (fun w1 k s (h : SliceDecs w1 (.slice ad ds.length m) ds) => latest_or (.slice ad ds.length m) ds k s nn w1 h HDR.out.oks (by omega))
  have HKN := Lib.hid (fun w1 (h : SliceDecs w1 (.slice ad ds.length m) ds) => known_any (.slice ad ds.length m) ds nn w1 h HDR.out.oks (by omega))
  generalize upTo ds nn = ts at *
  have hts : ts.length ≤ 14 := by omega
  have htsi : (ts.length : Int) ≤ (ds.length : Int) := by omega
  have htn : decide (ds.length < ts.length) = false := decide_eq_false (by omega)
  have hti : ¬ (ds.length : Int) < (ts.length : Int) := by omega
  have hbx : Below w3.heap.size w3 (w3.alloc (.cells #[.slice a3 ts.length m3] 25)) := (Below.refl _ _).alloc (Nat.le_refl _) _
  have HBO : Hid (Both w (w3.alloc (.cells #[.slice a3 ts.length m3] 25)) B2 w3.heap.size ad a3 m m3 ds ts) := Lib.hid ⟨HDR3.out.below.alloc HDR3.out.below.size _, HDR3.out.sd.below hbx, hs3.below hbx, (hbx.cell (p := ⟨B2, 0, none⟩) HDR3.out.lt).trans HDR3.out.cell, World.cell?_alloc_at _ _ _ _ rfl, Nat.lt_of_lt_of_le HDR3.out.lt hbx.size, by simp⟩
  clear hbx hO3 hb3 hs3 HDR3
  go_wp2_with fail
  generalize (w3.alloc (.cells #[.slice a3 ts.length m3] 25)) = W4 at *
  generalize w3.heap.size = B3 at *
  have hck := check_val (.slice a3 ts.length m3) ts W4 HBO.out.sd3 (by omega)
  rw [HTO.out.check 0] at hck
  refine hck.mono ?_
  rintro e w5 ⟨rfl, hb5⟩
  have HB5 := Lib.hid (HBO.out.step hb5)
  have c2 := HB5.out.cell
  have c3 := HB5.out.cell3
  clear hb5 hck HBO
  go_wp2_with fail
  clear c2 c3
  go_loopw [9] (fun i wr => ∃ k : Nat, k ≤ 6 ∧ i = .int .i64 k ∧ Below w5.heap.size w5 wr) (fun i _ => 6 - (intOf i).toNat)
  case atStart => exact ⟨1, by omega, rfl, Below.refl _ _⟩
  case round =>
    obtain ⟨k, hk, rfl, hb⟩ := hrel
    by_cases hlt : k < 6
    · have hlti : (k : Int) ≤ 5 := by omega
      have HB := Lib.hid hb
      clear hb
      go_wp2_with fail
      go_loopw [10] (fun i wr => ∃ s : Nat, s ≤ 3 ∧ i = .int .i64 s ∧ Below w5.heap.size w5 wr) (fun i _ => 3 - (intOf i).toNat)
      case atStart => exact ⟨0, by omega, rfl, HB.out⟩
      case round =>
        obtain ⟨s, hs, rfl, hb⟩ := hrel
        by_cases hlt2 : s < 3
        · have hlti2 : (s : Int) < 3 := by omega
          have HB6 := Lib.hid (HB5.out.step hb)
          have c2 := HB6.out.cell
          have HBW := Lib.hid hb
          clear hb
          have HL2 := Lib.hid (fun w1 (h : SliceDecs w1 (.slice a3 ts.length m3) ts) => latest_or (.slice a3 ts.length m3) ts k s ((nn : Int) + 100) w1 h HTO.out (by omega))
          rw [HUU.out ((nn : Int) + 100) (by omega)] at HL2
          have HLA := Lib.hid (HL1.out wr k s HB6.out.sd)
          have HDY := Lib.hid (HLD.out k s)
          generalize latestOf ts (k : Int) (s : Int) = o at *
          go_wp2_with fail
          refine HLA.out.mono ?_
          rintro e w7 ⟨rfl, hb7⟩
          have HB7 := Lib.hid (HB6.out.step hb7)
          have HBW7 := Lib.hid (HBW.out.trans (hb7.mono HBW.out.size))
          clear hb7 c2 HLA HBW HB6
          have hbz : Below w7.heap.size w7 (w7.alloc (.cells #[.int .i64 (decOr o).day, .int .i64 (decOr o).known, .int .i64 (decOr o).kind, .int .i64 (decOr o).subject, .int .i64 (decOr o).value] 27)) := (Below.refl _ _).alloc (Nat.le_refl _) _
          have HB8 := Lib.hid (HB7.out.step hbz)
          have HBW8 := Lib.hid (HBW7.out.trans (hbz.mono HBW7.out.size))
          have HDA : Hid (DecAt (w7.alloc (.cells #[.int .i64 (decOr o).day, .int .i64 (decOr o).known, .int .i64 (decOr o).kind, .int .i64 (decOr o).subject, .int .i64 (decOr o).value] 27)) w7.heap.size 0 (decOr o) ∧ w7.heap.size < (w7.alloc (.cells #[.int .i64 (decOr o).day, .int .i64 (decOr o).known, .int .i64 (decOr o).kind, .int .i64 (decOr o).subject, .int .i64 (decOr o).value] 27)).heap.size) := Lib.hid ⟨⟨World.cell?_alloc_at _ _ _ _ rfl, World.cell?_alloc_at _ _ _ _ rfl, World.cell?_alloc_at _ _ _ _ rfl, World.cell?_alloc_at _ _ _ _ rfl, World.cell?_alloc_at _ _ _ _ rfl⟩, by simp⟩
          have c3 := HB7.out.cell3
          have l3 := HB7.out.lt3
          clear hbz HB7 HBW7
          go_wp2_with fail
          generalize w7.alloc (.cells #[.int .i64 (decOr o).day, .int .i64 (decOr o).known, .int .i64 (decOr o).kind, .int .i64 (decOr o).subject, .int .i64 (decOr o).value] 27) = W8 at *
          generalize w7.heap.size = B7 at *
          clear c3 l3
          refine (HL2.out W8 HB8.out.sd3).mono ?_
          rintro e w9 ⟨rfl, hb9⟩
          have hda := HDA.out.1.of_cells (w' := w9) (fun i => hb9.cell (p := ⟨B7, i, none⟩) HDA.out.2)
          obtain ⟨x0, x1, x2, x3, x4⟩ := hda
          simp only [Nat.zero_add] at x0 x1 x2 x3 x4
          have hl7 : B7 < w9.heap.size := Nat.lt_of_lt_of_le HDA.out.2 hb9.size
          have hbz : Below w9.heap.size w9 (w9.alloc (.cells #[.int .i64 (decOr o).day, .int .i64 (decOr o).known, .int .i64 (decOr o).kind, .int .i64 (decOr o).subject, .int .i64 (decOr o).value] 27)) := (Below.refl _ _).alloc (Nat.le_refl _) _
          have HBW9 := Lib.hid ((HBW8.out.trans (hb9.mono HBW8.out.size)).trans (hbz.mono (Nat.le_trans HBW8.out.size hb9.size)))
          clear hb9 hbz
          cases o with
          | none =>
            dsimp only [decOr, Option.getD, Option.isSome] at x0 x1 x2 x3 x4 HBW9 ⊢
            go_wp2_with fail
            exact ⟨⟨s + 1, by omega, by go_num, HBW9.out⟩, by simp [intOf]; omega⟩
          | some d =>
            have hdy := HDY.out d rfl
            have hdn : decide ((nn : Int) < d.day) = false := decide_eq_false (by omega)
            dsimp only [decOr, Option.getD, Option.isSome] at x0 x1 x2 x3 x4 HBW9 ⊢
            go_wp2_with fail
            exact ⟨⟨s + 1, by omega, by go_num, HBW9.out⟩, by simp [intOf]; omega⟩
        · have he : s = 3 := by omega
          subst he
          have HBo := Lib.hid hb
          clear hb
          go_wp2_with fail
          exact ⟨⟨k + 1, by omega, by go_num, HBo.out⟩, by simp [intOf]; omega⟩
    · have he : k = 6 := by omega
      subst he
      have HB6 := Lib.hid (HB5.out.step hb)
      have c2 := HB6.out.cell
      have c3 := HB6.out.cell3
      clear hb
      go_wp2_with fail
      have hs3 := HB6.out.sd3
      have hdf := ldiffer_pre (.slice a3 ts.length m3) (.slice ad ds.length m) ts.length ds wr (by rw [← HTK.out]; exact HB6.out.sd3) HB6.out.sd (by omega) (by omega)
      refine hdf.mono ?_
      rintro e w7 ⟨rfl, hb7⟩
      have HB7 := Lib.hid (HB6.out.step hb7)
      have c4 := HB7.out.cell
      have c5 := HB7.out.cell3
      have l2 := HB7.out.lt
      have l3 := HB7.out.lt3
      have HK1 := Lib.hid (fun w1 (hb : Below w7.heap.size w7 w1) => HKN.out w1 (HB7.out.sd.below hb))
      have HK2 := Lib.hid (fun w1 (hb : Below w7.heap.size w7 w1) => known_any (.slice a3 ts.length m3) ts 40000 w1 (HB7.out.sd3.below hb) HTO.out (by omega))
      rw [upTo_max HTO.out] at HK2
      have HT1 := Lib.hid (fun w1 (hb : Below w7.heap.size w7 w1) => then_any (.slice a3 ts.length m3) ts nn w1 (HB7.out.sd3.below hb) HTO.out (by omega))
      have hxx := HUU.out nn (Int.le_refl _)
      rw [hxx] at HT1
      have HS3 := Lib.hid (fun w1 (hb : Below w7.heap.size w7 w1) => HB7.out.sd3.below hb)
      have HT14 := Lib.hid hts
      clear hb7 c2 c3 hs3 hdf hxx HB6
      generalize knownF ts = kf at *
      by_cases hlt2 : ts.length < ds.length
      · rw [if_pos hlt2, decide_eq_true hlt2]
        have hdt : decide (ts.length < ds.length) = true := decide_eq_true hlt2
        have hdi : (ts.length : Int) < (ds.length : Int) := by omega
        clear htn hti
        go_wp2_with fail
        have hK : Below w7.heap.size w7 w7.drew := (Below.refl _ _).drew
        first
          | (go_region_held3 (fun w' => w'.cell? ⟨B2, 0, none⟩ = some (.slice ad ds.length m) ∧ w'.cell? ⟨B3, 0, none⟩ = some (.slice a3 ts.length m3) ∧ Below w7.heap.size w7 w')
              (exact ⟨(hK.cell (p := ⟨B2, 0, none⟩) l2).trans c4, (hK.cell (p := ⟨B3, 0, none⟩) l3).trans c5, hK⟩)
              (first
                | (go_at_call 30; (first | (with_reducible refine (HK1.out _ hK).mono ?_) | (with_reducible refine (HK2.out _ hK).mono ?_)); (rintro e v ⟨rfl, hb⟩; have hK := hK.trans (hb.mono hK.size)))
                | (go_at_call 32; (with_reducible refine (HT1.out _ hK).mono ?_); (rintro e v ⟨u, rfl, hO, hb⟩; have hTS := hO.slice; obtain ⟨au, mu, rfl⟩ := hTS.form; have hK := hK.trans (hb.mono hK.size); clear hO))
                | (go_at_call 24; (with_reducible refine (lsame_any _ _ ts _ hTS (HS3.out _ hK) (by have := HT14.out; omega)).mono ?_); (rintro e v ⟨rfl, hb⟩; have hK := hK.trans (hb.mono hK.size)))
                | (go_at_call 14; (with_reducible refine (wake_any _).mono ?_); (rintro e v ⟨rfl, hb⟩; have hK := hK.trans (hb.mono hK.size)))))
          | fail
        all_goals (
          have HF := Lib.hid (HB7.out.below.trans (hK.mono HB7.out.below.size))
          clear hK
          go_wp2_with fail
          go_ret
          exact ⟨rfl, HF.out⟩)
      · have hle : ts.length = ds.length := by omega
        rw [if_neg hlt2, decide_eq_false hlt2]
        have hdt : decide (ts.length < ds.length) = false := decide_eq_false hlt2
        have hdi : ¬ (ts.length : Int) < (ds.length : Int) := by omega
        clear htn hti hle
        go_wp2_with fail
        have hK : Below w7.heap.size w7 w7.drew := (Below.refl _ _).drew
        refine wp_region_held_drew (S := fun w' => w'.cell? ⟨B2, 0, none⟩ = some (.slice ad ds.length m) ∧ w'.cell? ⟨B3, 0, none⟩ = some (.slice a3 ts.length m3) ∧ Below w7.heap.size w7 w') (by kernel_rfl) ⟨(hK.cell (p := ⟨B2, 0, none⟩) l2).trans c4, (hK.cell (p := ⟨B3, 0, none⟩) l3).trans c5, hK⟩ ?_
        intro hS
        refine wpAnyH_take (i := 0) (v := ?_) rfl (by kernel_rfl) (by kernel_rfl) (by kernel_rfl) (fun _ _ _ h => h) (Or.inl ⟨by rfl, ?_⟩) hS ?_
        rotate_left
        · rintro w' ⟨s1, s2, s3⟩
          go_simp
          rfl
        go_simp
        refine wpAnyH_take (i := 1) (v := ?_) rfl (by kernel_rfl) (by kernel_rfl) (by kernel_rfl) (fun _ _ _ h => h) (Or.inl ⟨by rfl, ?_⟩) hS ?_
        rotate_left
        · rintro w' ⟨s1, s2, s3⟩
          go_simp
          rfl
        go_simp
        refine wpAnyH_take (i := 3) (v := ?_) rfl (by kernel_rfl) (by kernel_rfl) (by kernel_rfl) (fun _ _ _ h => h) (Or.inl ⟨by rfl, ?_⟩) hS ?_
        rotate_left
        · rintro w' ⟨s1, s2, s3⟩
          go_simp
          rfl
        go_simp
        refine wpAnyH_ready (rs := [2]) (by kernel_rfl) (by simp) ?_
        refine AllReadyH.cons rfl (fun K hKK => ?_) AllReadyH.nil
        go_simp
        refine (HK1.out _ hK).mono ?_
        rintro e v ⟨rfl, hb⟩
        replace hK := hK.trans (hb.mono hK.size)
        clear hb
        go_simp
        refine hKK.out _ _ ⟨(hK.cell (p := ⟨B2, 0, none⟩) l2).trans c4, (hK.cell (p := ⟨B3, 0, none⟩) l3).trans c5, hK⟩ (fun hS' => ?_)
        clear hKK hS
        have hS := hS'
        clear hS'
        refine wpAnyH_ready (rs := [4]) (by kernel_rfl) (by simp) ?_
        refine AllReadyH.cons rfl (fun K hKK => ?_) AllReadyH.nil
        go_simp
        refine (HK2.out _ hK).mono ?_
        rintro e v ⟨rfl, hb⟩
        replace hK := hK.trans (hb.mono hK.size)
        clear hb
        go_simp
        refine hKK.out _ _ ⟨(hK.cell (p := ⟨B2, 0, none⟩) l2).trans c4, (hK.cell (p := ⟨B3, 0, none⟩) l3).trans c5, hK⟩ (fun hS' => ?_)
        clear hKK hS
        have hS := hS'
        clear hS'
        refine wpAnyH_take (i := 5) (v := ?_) rfl (by kernel_rfl) (by kernel_rfl) (by kernel_rfl) (fun _ _ _ h => h) (Or.inl ⟨by rfl, ?_⟩) hS ?_
        rotate_left
        · rintro w' ⟨s1, s2, s3⟩
          go_simp
          rfl
        go_simp
        refine wpAnyH_take (i := 6) (v := ?_) rfl (by kernel_rfl) (by kernel_rfl) (by kernel_rfl) (fun _ _ _ h => h) (Or.inl ⟨by rfl, ?_⟩) hS ?_
        rotate_left
        · rintro w' ⟨s1, s2, s3⟩
          go_simp
          rfl
        go_simp
        refine wpAnyH_take (i := 7) (v := ?_) rfl (by kernel_rfl) (by kernel_rfl) (by kernel_rfl) (fun _ _ _ h => h) (Or.inl ⟨by rfl, ?_⟩) hS ?_
        rotate_left
        · rintro w' ⟨s1, s2, s3⟩
          go_simp
          rfl
        go_simp
        refine wpAnyH_take (i := 8) (v := ?_) rfl (by kernel_rfl) (by kernel_rfl) (by kernel_rfl) (fun _ _ _ h => h) (Or.inl ⟨by rfl, ?_⟩) hS ?_
        rotate_left
        · rintro w' ⟨s1, s2, s3⟩
          go_simp
          rfl
        go_simp
        refine wpAnyH_take (i := 9) (v := ?_) rfl (by kernel_rfl) (by kernel_rfl) (by kernel_rfl) (fun _ _ _ h => h) (Or.inl ⟨by rfl, ?_⟩) hS ?_
        rotate_left
        · rintro w' ⟨s1, s2, s3⟩
          go_simp
          rfl
        go_simp
        refine wpAnyH_take (i := 10) (v := ?_) rfl (by kernel_rfl) (by kernel_rfl) (by kernel_rfl) (fun _ _ _ h => h) (Or.inl ⟨by rfl, ?_⟩) hS ?_
        rotate_left
        · rintro w' ⟨s1, s2, s3⟩
          go_simp
          rfl
        go_simp
        refine wpAnyH_take (i := 11) (v := ?_) rfl (by kernel_rfl) (by kernel_rfl) (by kernel_rfl) (fun _ _ _ h => h) (Or.inl ⟨by rfl, ?_⟩) hS ?_
        rotate_left
        · rintro w' ⟨s1, s2, s3⟩
          go_simp
          rfl
        go_simp
        refine wpAnyH_take (i := 12) (v := ?_) rfl (by kernel_rfl) (by kernel_rfl) (by kernel_rfl) (fun _ _ _ h => h) (Or.inl ⟨by rfl, ?_⟩) hS ?_
        rotate_left
        · rintro w' ⟨s1, s2, s3⟩
          go_simp
          rfl
        go_simp
        refine wpAnyH_take (i := 13) (v := ?_) rfl (by kernel_rfl) (by kernel_rfl) (by kernel_rfl) (fun _ _ _ h => h) (Or.inl ⟨by rfl, ?_⟩) hS ?_
        rotate_left
        · rintro w' ⟨s1, s2, s3⟩
          go_simp
          rfl
        go_simp
        refine wpAnyH_take (i := 14) (v := ?_) rfl (by kernel_rfl) (by kernel_rfl) (by kernel_rfl) (fun _ _ _ h => h) (Or.inl ⟨by rfl, ?_⟩) hS ?_
        rotate_left
        · rintro w' ⟨s1, s2, s3⟩
          go_simp
          rfl
        go_simp
        refine wpAnyH_take (i := 15) (v := ?_) rfl (by kernel_rfl) (by kernel_rfl) (by kernel_rfl) (fun _ _ _ h => h) (Or.inl ⟨by rfl, ?_⟩) hS ?_
        rotate_left
        · rintro w' ⟨s1, s2, s3⟩
          go_simp
          rfl
        go_simp
        refine wpAnyH_take (i := 16) (v := ?_) rfl (by kernel_rfl) (by kernel_rfl) (by kernel_rfl) (fun _ _ _ h => h) (Or.inl ⟨by rfl, ?_⟩) hS ?_
        rotate_left
        · rintro w' ⟨s1, s2, s3⟩
          go_simp
          rfl
        go_simp
        refine wpAnyH_take (i := 17) (v := ?_) rfl (by kernel_rfl) (by kernel_rfl) (by kernel_rfl) (fun _ _ _ h => h) (Or.inl ⟨by rfl, ?_⟩) hS ?_
        rotate_left
        · rintro w' ⟨s1, s2, s3⟩
          go_simp
          rfl
        go_simp
        refine wpAnyH_take (i := 18) (v := ?_) rfl (by kernel_rfl) (by kernel_rfl) (by kernel_rfl) (fun _ _ _ h => h) (Or.inl ⟨by rfl, ?_⟩) hS ?_
        rotate_left
        · rintro w' ⟨s1, s2, s3⟩
          go_simp
          rfl
        go_simp
        refine wpAnyH_take (i := 19) (v := ?_) rfl (by kernel_rfl) (by kernel_rfl) (by kernel_rfl) (fun _ _ _ h => h) (Or.inl ⟨by rfl, ?_⟩) hS ?_
        rotate_left
        · rintro w' ⟨s1, s2, s3⟩
          go_simp
          rfl
        go_simp
        refine wpAnyH_take (i := 20) (v := ?_) rfl (by kernel_rfl) (by kernel_rfl) (by kernel_rfl) (fun _ _ _ h => h) (Or.inl ⟨by rfl, ?_⟩) hS ?_
        rotate_left
        · rintro w' ⟨s1, s2, s3⟩
          go_simp
          rfl
        go_simp
        refine wpAnyH_take (i := 21) (v := undef) rfl (by kernel_rfl) (by kernel_rfl) (by kernel_rfl) (fun _ _ _ h => h) (Or.inr ⟨by rfl, rfl⟩) hS ?_
        go_simp
        refine wpAnyH_take (i := 22) (v := undef) rfl (by kernel_rfl) (by kernel_rfl) (by kernel_rfl) (fun _ _ _ h => h) (Or.inr ⟨by rfl, rfl⟩) hS ?_
        go_simp
        refine wpAnyH_take (i := 23) (v := undef) rfl (by kernel_rfl) (by kernel_rfl) (by kernel_rfl) (fun _ _ _ h => h) (Or.inr ⟨by rfl, rfl⟩) hS ?_
        go_simp
        refine wpAnyH_take (i := 24) (v := undef) rfl (by kernel_rfl) (by kernel_rfl) (by kernel_rfl) (fun _ _ _ h => h) (Or.inr ⟨by rfl, rfl⟩) hS ?_
        go_simp
        refine wpAnyH_take (i := 25) (v := undef) rfl (by kernel_rfl) (by kernel_rfl) (by kernel_rfl) (fun _ _ _ h => h) (Or.inr ⟨by rfl, rfl⟩) hS ?_
        go_simp
        refine wpAnyH_take (i := 26) (v := ?_) rfl (by kernel_rfl) (by kernel_rfl) (by kernel_rfl) (fun _ _ _ h => h) (Or.inl ⟨by rfl, ?_⟩) hS ?_
        rotate_left
        · rintro w' ⟨s1, s2, s3⟩
          go_simp
          rfl
        go_simp
        refine wpAnyH_take (i := 27) (v := ?_) rfl (by kernel_rfl) (by kernel_rfl) (by kernel_rfl) (fun _ _ _ h => h) (Or.inl ⟨by rfl, ?_⟩) hS ?_
        rotate_left
        · rintro w' ⟨s1, s2, s3⟩
          go_simp
          rfl
        go_simp
        refine wpAnyH_take (i := 28) (v := ?_) rfl (by kernel_rfl) (by kernel_rfl) (by kernel_rfl) (fun _ _ _ h => h) (Or.inl ⟨by rfl, ?_⟩) hS ?_
        rotate_left
        · rintro w' ⟨s1, s2, s3⟩
          go_simp
          rfl
        go_simp
        refine wpAnyH_take (i := 29) (v := ?_) rfl (by kernel_rfl) (by kernel_rfl) (by kernel_rfl) (fun _ _ _ h => h) (Or.inl ⟨by rfl, ?_⟩) hS ?_
        rotate_left
        · rintro w' ⟨s1, s2, s3⟩
          go_simp
          rfl
        go_simp
        refine wpAnyH_take (i := 30) (v := ?_) rfl (by kernel_rfl) (by kernel_rfl) (by kernel_rfl) (fun _ _ _ h => h) (Or.inl ⟨by rfl, ?_⟩) hS ?_
        rotate_left
        · rintro w' ⟨s1, s2, s3⟩
          go_simp
          rfl
        go_simp
        refine wpAnyH_take (i := 32) (v := ?_) rfl (by kernel_rfl) (by kernel_rfl) (by kernel_rfl) (fun _ _ _ h => h) (Or.inl ⟨by rfl, ?_⟩) hS ?_
        rotate_left
        · rintro w' ⟨s1, s2, s3⟩
          go_simp
          rfl
        go_simp
        refine wpAnyH_ready (rs := [31]) (by kernel_rfl) (by simp) ?_
        refine AllReadyH.cons rfl (fun K hKK => ?_) AllReadyH.nil
        go_simp
        refine (HT1.out _ hK).mono ?_
        rintro e v ⟨u, rfl, hO, hb⟩
        have hTS := hO.slice
        obtain ⟨au, mu, rfl⟩ := hTS.form
        replace hK := hK.trans (hb.mono hK.size)
        clear hO hb
        go_simp
        refine hKK.out _ _ ⟨(hK.cell (p := ⟨B2, 0, none⟩) l2).trans c4, (hK.cell (p := ⟨B3, 0, none⟩) l3).trans c5, hK⟩ (fun hS' => ?_)
        clear hKK hS
        have hS := hS'
        clear hS'
        refine wpAnyH_ready (rs := [33]) (by kernel_rfl) (by simp) ?_
        refine AllReadyH.cons rfl (fun K hKK => ?_) AllReadyH.nil
        go_simp
        refine (lsame_any _ _ ts _ hTS (HS3.out _ hK) (by have := HT14.out; omega)).mono ?_
        rintro e v ⟨rfl, hb⟩
        replace hK := hK.trans (hb.mono hK.size)
        clear hb
        go_simp
        refine hKK.out _ _ ⟨(hK.cell (p := ⟨B2, 0, none⟩) l2).trans c4, (hK.cell (p := ⟨B3, 0, none⟩) l3).trans c5, hK⟩ (fun hS' => ?_)
        clear hKK hS
        have hS := hS'
        clear hS'
        refine wpAnyH_take (i := 34) (v := ?_) rfl (by kernel_rfl) (by kernel_rfl) (by kernel_rfl) (fun _ _ _ h => h) (Or.inl ⟨by rfl, ?_⟩) hS ?_
        rotate_left
        · rintro w' ⟨s1, s2, s3⟩
          go_simp
          rfl
        go_simp
        refine wpAnyH_take (i := 35) (v := ?_) rfl (by kernel_rfl) (by kernel_rfl) (by kernel_rfl) (fun _ _ _ h => h) (Or.inl ⟨by rfl, ?_⟩) hS ?_
        rotate_left
        · rintro w' ⟨s1, s2, s3⟩
          go_simp
          rfl
        go_simp
        refine wpAnyH_ready (rs := [36]) (by kernel_rfl) (by simp) ?_
        refine AllReadyH.cons rfl (fun K hKK => ?_) AllReadyH.nil
        go_simp
        refine (wake_any _).mono ?_
        rintro e v ⟨rfl, hb⟩
        replace hK := hK.trans (hb.mono hK.size)
        clear hb
        go_simp
        refine hKK.out _ _ ⟨(hK.cell (p := ⟨B2, 0, none⟩) l2).trans c4, (hK.cell (p := ⟨B3, 0, none⟩) l3).trans c5, hK⟩ (fun hS' => ?_)
        clear hKK hS
        have hS := hS'
        clear hS'
        refine wpAnyH_take (i := 37) (v := ?_) rfl (by kernel_rfl) (by kernel_rfl) (by kernel_rfl) (fun _ _ _ h => h) (Or.inl ⟨by rfl, ?_⟩) hS ?_
        rotate_left
        · rintro w' ⟨s1, s2, s3⟩
          go_simp
          rfl
        go_simp
        refine wpAnyH_take (i := 38) (v := ?_) rfl (by kernel_rfl) (by kernel_rfl) (by kernel_rfl) (fun _ _ _ h => h) (Or.inl ⟨by rfl, ?_⟩) hS ?_
        rotate_left
        · rintro w' ⟨s1, s2, s3⟩
          go_simp
          rfl
        go_simp
        refine wpAnyH_done (by kernel_rfl) ?_ _
        have HF := Lib.hid (HB7.out.below.trans (hK.mono HB7.out.below.size))
        clear hK hS
        go_wp2_with fail
        go_ret
        exact ⟨rfl, HF.out⟩
end Go.Proofs.Ytpjcaanlagibpaa

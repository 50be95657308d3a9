import Derived.Test.YtpjcaanlagibpaaJour
import Derived.Test.YtpjcaanlagibpaaLaw3
namespace Go.Proofs.Ytpjcaanlagibpaa
open Go.RowKit
set_option linter.unusedSimpArgs false
set_option linter.unusedVariables false

set_option maxRecDepth 100000 in
set_option maxHeartbeats 4000000 in
theorem back_heavy (a : Option Addr) (len cap y : Nat) (torn : ByteArray) (w : World) (hl : 400 < len ∨ 300 < torn.size) (hm : (len : Int) ≤ 9223372036854775807) (hm2 : (torn.size : Int) ≤ 9223372036854775807) :
    Calls Try.prog 10 #[.slice a len cap, .int .u8 y, .string torn] w fun e w' => e = .returned (.bool true) ∧ Below w.heap.size w w' := by
  have h1 := fun w1 => light_any a len cap w1 hm
  have H1 := Lib.hid h1
  clear h1
  by_cases hc : len ≤ 400
  · have hd : decide (len ≤ 400) = true := decide_eq_true hc
    rw [hd] at H1
    have ht : (300 : Int) < (torn.size : Int) := by omega
    go_enter Try.func10, Try.ntmps10
    go_wp2_with fail
    refine (H1.out _).mono ?_
    rintro e w1 ⟨rfl, rfl⟩
    go_wp2_with (go_at_call 38; refine (awake_any _).mono ?_; rintro e w1 ⟨rfl, hb⟩)
    go_ret
    exact ⟨rfl, hb⟩
  · have hd : decide (len ≤ 400) = false := decide_eq_false hc
    rw [hd] at H1
    go_enter Try.func10, Try.ntmps10
    go_wp2_with fail
    refine (H1.out _).mono ?_
    rintro e w1 ⟨rfl, rfl⟩
    go_wp2_with (go_at_call 38; refine (awake_any _).mono ?_; rintro e w1 ⟨rfl, hb⟩)
    go_ret
    exact ⟨rfl, hb⟩

theorem SliceDecs.cut {W : World} {ad : Option Addr} {n m q : Nat} {ds : List Dec} (h : SliceDecs W (.slice ad n m) ds) (hq : q ≤ ds.length) : SliceDecs W (.slice ad q m) (ds.take q) ∧ n = ds.length ∧ ds.length ≤ m := by
  rcases h with ⟨h1, h2⟩ | ⟨g, cap, h1, h2, h3, h4⟩
  · injection h1 with e1 e2 e3
    subst e1 e2 e3 h2
    have : q = 0 := by simpa using hq
    subst this
    exact ⟨.inl ⟨rfl, rfl⟩, rfl, by simp⟩
  · injection h1 with e1 e2 e3
    subst e1 e2 e3
    have hl : (ds.take q).length = q := by simp; omega
    refine ⟨.inr ⟨g, m, by rw [hl], h2, by omega, ?_⟩, rfl, h3⟩
    intro i hi
    have := h4 i (by omega)
    rw [List.getElem_take]
    exact this

set_option maxRecDepth 100000 in
set_option maxHeartbeats 4000000 in
theorem back_light (a : Option Addr) (len cap y : Nat) (torn : ByteArray) (w : World) (hl : len ≤ 400) (hr : RowAt w w.heap.size a len) (hy : y < 256) (ht : torn.size ≤ 300) :
    Calls Try.prog 10 #[.slice a len cap, .int .u8 y, .string torn] w fun e w' => e = .returned (.bool true) ∧ Below w.heap.size w w' := by
  have h1 := fun w1 => light_any a len cap w1 (by omega)
  have hd : decide (len ≤ 400) = true := decide_eq_true (by omega)
  rw [hd] at h1
  have hti : (torn.size : Int) ≤ 300 := by omega
  have H1 := Lib.hid h1
  have H2 := Lib.hid (roll_any a len cap w hl hr)
  clear h1 hr hd
  go_enter Try.func10, Try.ntmps10
  go_wp2_with fail
  refine (H1.out _).mono ?_
  rintro e w1 ⟨rfl, rfl⟩
  go_wp2_with fail
  refine H2.out.mono ?_
  rintro e w1 ⟨rfl, hb1, hz1, hd1⟩
  have H3 := Lib.hid (ledger_any w.heap.size 8 w1 hd1 (by omega))
  clear hd1
  go_wp2_with fail
  refine H3.out.mono ?_
  rintro e w2 ⟨v, ds, rfl, hoks, hlen, hown, hdg⟩
  have hb2 : Below w.heap.size w w2 := hb1.trans (hdg.below (Nat.le_refl _) hb1.size)
  have hsd := hown.slice
  obtain ⟨ad, n, m, rfl⟩ := hown.slice_val
  clear hown hb1 hz1 hdg H1 H2 H3
  have hn : n = ds.length := by
    rcases hsd with ⟨h1, h2⟩ | ⟨g, cap, h1, _⟩
    · injection h1 with _ h3 _; rw [h2, h3]; rfl
    · injection h1 with _ h3 _
  subst hn
  go_wp2_with fail
  have hbx : Below w2.heap.size w2 (w2.alloc (.cells #[.slice ad ds.length m] 25)) := (Below.refl _ _).alloc (Nat.le_refl _) _
  have hb3 : Below w.heap.size w (w2.alloc (.cells #[.slice ad ds.length m] 25)) := hb2.alloc hb2.size _
  have hs3 := hsd.below hbx
  have hq : World.cell? (w2.alloc (.cells #[.slice ad ds.length m] 25)) ⟨w2.heap.size, 0, none⟩ = some (.slice ad ds.length m) := World.cell?_alloc_at _ _ _ _ rfl
  have hz : w2.heap.size < (w2.alloc (.cells #[.slice ad ds.length m] 25)).heap.size := by simp
  clear hb2 hsd hbx
  have HB := Lib.hid hb3
  have HS := Lib.hid hs3
  have HQ := Lib.hid hq
  have HZ := Lib.hid hz
  have HOK := Lib.hid hoks
  clear hb3 hs3 hq hz hoks
  generalize w2.alloc (.cells #[.slice ad ds.length m] 25) = W2 at *
  generalize w2.heap.size = B2 at *
  clear w2
  have hli : (ds.length : Int) ≤ 8 := by omega
  go_loopw [8, 10, 11, 12, 35] (fun s _ _ _ i wr => ∃ k : Nat, k ≤ ds.length ∧ i = .int .i64 k ∧ s = .string ⟨(recsOf (ds.take k)).toArray⟩ ∧ Below W2.heap.size W2 wr) (fun _ _ _ _ i _ => ds.length - (intOf i).toNat)
  case atStart => exact ⟨0, Nat.zero_le _, rfl, rfl, Below.refl _ _⟩
  case round =>
    obtain ⟨k, hk, rfl, rfl, hbe⟩ := hrel
    by_cases hlt : k < ds.length
    · rcases HS.out with ⟨_, h2⟩ | ⟨g, cap5, hv, hg, hc, hd⟩
      · rw [h2] at hlt; simp at hlt
      injection hv with hv1 hv2 hv3
      subst hv1 hv3
      obtain ⟨c0, c1, c2, c3, c4⟩ := (hd k hlt).of_cells (w' := wr) (fun o => hbe.cell (p := ⟨g, o, none⟩) hg)
      simp only [Nat.zero_add] at c0 c1 c2 c3 c4
      have hsz := hbe.size
      have hlti : (k : Int) < (ds.length : Int) := by omega
      have hgw : g < wr.heap.size := by omega
      have hA := Lib.hid (fun w1 => jappend_ok (recsOf (ds.take k)) ds[k] w1 (HOK.out.ok (List.getElem_mem _)) (by rw [recsOf_length]; simp; omega))
      have hT : recsOf (ds.take k) ++ recOf ds[k] = recsOf (ds.take (k + 1)) := by rw [take_snoc_dec ds k hlt, recsOf_snoc]
      rw [hT] at hA
      have HBE := Lib.hid hbe
      clear hT hbe hd
      generalize (⟨(recsOf (ds.take k)).toArray⟩ : ByteArray) = S at *
      go_wp2_with (go_at_call 42; refine (hA.out _).mono ?_; rintro e w1 ⟨rfl, hb1⟩)
      go_roundw
      case rel => exact ⟨k + 1, by omega, by go_num, rfl, HBE.out.trans ((((Below.refl _ _).alloc (Nat.le_refl _) _).trans (hb1.mono (by simp))).mono HBE.out.size)⟩
      case measure => simp [intOf]; omega
    · have hkk : k = ds.length := by omega
      subst hkk
      rw [List.take_length]
      have HBE := Lib.hid hbe
      clear hbe
      have hrd := reads_recs ds (fun d hd => HOK.out.ok hd) (by omega)
      have hrl := recsOf_length ds
      have hsz : ByteArray.size ⟨(recsOf ds).toArray⟩ = 12 * ds.length := by rw [bytes_size, hrl]
      have hdt : ByteArray.data ⟨(recsOf ds).toArray⟩ = (recsOf ds).toArray := rfl
      generalize hs : (⟨(recsOf ds).toArray⟩ : ByteArray) = s at *
      have hss : (s.size : Int) ≤ 96 := by omega
      have hklt : y % (s.size + 1) < s.size + 1 := Nat.mod_lt _ (by omega)
      have hm := fun w1 => mod_any' (y : Int) ((s.size : Int) + 1) w1 (by omega) (by omega) (by omega)
      rw [show (y : Int) % ((s.size : Int) + 1) = ((y % (s.size + 1) : Nat) : Int) from by simp] at hm
      generalize y % (s.size + 1) = k at *
      have hqk : 12 * (k / 12) ≤ k := by omega
      have hql : k / 12 ≤ ds.length := by omega
      have hcr := fun w1 => crash_any s torn k w1 (by omega) (by omega) (by omega)
      have hst : (s.extract 0 k ++ torn).size ≤ 396 := by rw [ByteArray.size_append, ByteArray.size_extract]; omega
      have hst2 : k ≤ (s.extract 0 k ++ torn).size := by rw [ByteArray.size_append, ByteArray.size_extract]; omega
      obtain ⟨es, hre, hle⟩ := reads_prefix (s.extract 0 k ++ torn) ds (k / 12) (by omega) (fun d hd => HOK.out.ok hd) hql (by omega) (by
        rw [ByteArray.data_append, ByteArray.data_extract, Array.toList_append, Array.toList_extract, hdt]
        simp
        rw [List.take_append_of_le_length (by simp; omega), List.take_take, Nat.min_eq_left hqk])
      obtain ⟨fs, hfs⟩ : ∃ fs, fs = ds.take (k / 12) ++ es := ⟨_, rfl⟩
      rw [← hfs] at hre hle
      generalize hq : k / 12 = q at *
      have hik : (k : Int) / 12 = (q : Int) := by omega
      have hdq : (ds.take q).length = q := by simp; omega
      have hfq : q ≤ fs.length := by rw [hfs]; simp; omega
      have hft : fs.take q = ds.take q := by rw [hfs, List.take_append_of_le_length (by omega), List.take_take, Nat.min_self]
      have HFT := Lib.hid hft
      have HO1 := Lib.hid (fun w1 => (open_any s ds w1 hrd).mono (R' := fun e w' => ∃ v : Value, e = .returned (.tuple #[v, .int .i64 (s.size : Int)]) ∧ SliceDecs w' v ds ∧ Below w1.heap.size w1 w') (fun e w' ⟨v, he, h2, h3⟩ => ⟨v, by rw [he, hsz], h2.slice, h3⟩))
      have HRP := Lib.hid (fun w1 => replay_any s ds w1 hrd HOK.out (by omega))
      have HM := Lib.hid hm
      have HCR := Lib.hid hcr
      have HO2 := Lib.hid (fun w1 => (open_any (s.extract 0 k ++ torn) fs w1 hre).mono (R' := fun e w' => ∃ (v : Value) (z : Int), e = .returned (.tuple #[v, .int .i64 z]) ∧ SliceDecs w' v fs ∧ Below w1.heap.size w1 w') (fun e w' ⟨v, he, h2, h3⟩ => ⟨v, _, he, h2.slice, h3⟩))
      have HWH := Lib.hid (fun w1 => (whole_any s ds w1 hrd (by omega) (by omega)).mono (R' := fun e w' => e = .returned (.string s) ∧ Below w1.heap.size w1 w') (fun e w' ⟨he, h2⟩ => ⟨by rw [he, ← hsz, ByteArray.extract_zero_size], h2⟩))
      have HD := Lib.hid hlen
      have hfl : fs.length ≤ 100000 := by omega
      generalize s.extract 0 k ++ torn = s' at *
      have HS5 := Lib.hid (HS.out.below HBE.out)
      have HQ5 := Lib.hid ((HBE.out.cell (p := ⟨B2, 0, none⟩) HZ.out).trans HQ.out)
      have HB5 := Lib.hid (HB.out.trans (HBE.out.mono HB.out.size))
      have HZ5 := Lib.hid (Nat.lt_of_lt_of_le HZ.out HBE.out.size)
      clear hrd hm hcr hst hst2 hre hle hfs hdq hft hrl hsz hdt hs HS HQ HB HZ HBE hlen hklt hqk hq hk hlt
      go_wp2_with fail
      refine (HO1.out _).mono ?_
      rintro e w3 ⟨v3, rfl, hS3, hb3⟩
      have HK3 := Lib.hid hb3
      have HA3 := Lib.hid hS3
      obtain ⟨a3, n3, m3, rfl⟩ : ∃ a n c, v3 = .slice a n c := by
        rcases hS3 with ⟨rfl, _⟩ | ⟨g, cap, rfl, _⟩
        · exact ⟨_, _, _, rfl⟩
        · exact ⟨_, _, _, rfl⟩
      clear hb3 hS3 HO1
      go_wp2_with fail
      refine (HRP.out _).mono ?_
      rintro e w4 ⟨v4, rfl, hS4, hb4⟩
      have HK4 := Lib.hid (HK3.out.trans (hb4.mono HK3.out.size))
      have HA4 := Lib.hid (HA3.out.below hb4)
      have HR4 := Lib.hid hS4
      obtain ⟨a4, n4, m4, rfl⟩ : ∃ a n c, v4 = .slice a n c := by
        rcases hS4 with ⟨rfl, _⟩ | ⟨g, cap, rfl, _⟩
        · exact ⟨_, _, _, rfl⟩
        · exact ⟨_, _, _, rfl⟩
      clear hb4 hS4 HRP HK3 HA3
      go_wp2_with fail
      have hbx : Below w4.heap.size w4 (w4.alloc (.cells #[.slice a4 n4 m4] 25)) := (Below.refl _ _).alloc (Nat.le_refl _) _
      have hk6 := HK4.out.trans (hbx.mono HK4.out.size)
      have ha6 := HA4.out.below hbx
      have hr6 := HR4.out.below hbx
      have hc6 : World.cell? (w4.alloc (.cells #[.slice a4 n4 m4] 25)) ⟨w4.heap.size, 0, none⟩ = some (.slice a4 n4 m4) := World.cell?_alloc_at _ _ _ _ rfl
      have hz6 : w4.heap.size < (w4.alloc (.cells #[.slice a4 n4 m4] 25)).heap.size := by simp
      have hd6 := HS5.out.below hk6
      have hw6 := HB5.out.trans (hk6.mono HB5.out.size)
      have hq6 := (hk6.cell (p := ⟨B2, 0, none⟩) HZ5.out).trans HQ5.out
      have hy6 := Nat.lt_of_lt_of_le HZ5.out hk6.size
      have HA6 := Lib.hid ha6
      have HR6 := Lib.hid hr6
      have HC6 := Lib.hid hc6
      have HZ6 := Lib.hid hz6
      have HD6 := Lib.hid hd6
      have HW6 := Lib.hid hw6
      have HQ6 := Lib.hid hq6
      have HY6 := Lib.hid hy6
      clear hbx hk6 ha6 hr6 hc6 hz6 hd6 hw6 hq6 hy6 HA4 HR4 HK4 HS5 HB5 HQ5 HZ5
      generalize w4.alloc (.cells #[.slice a4 n4 m4] 25) = W6 at *
      generalize w4.heap.size = B4 at *
      clear w4
      refine (HM.out _).mono ?_
      rintro e w4 ⟨rfl, rfl⟩
      clear HM
      go_wp2_with fail
      refine (HCR.out _).mono ?_
      rintro e w7 ⟨rfl, hb7⟩
      have HK7 := Lib.hid hb7
      clear hb7 HCR
      go_wp2_with fail
      refine (HO2.out _).mono ?_
      rintro e w8 ⟨v8, z8, rfl, hS8, hb8⟩
      have hk8 := HK7.out.trans (hb8.mono HK7.out.size)
      obtain ⟨a8, n8, m8, rfl⟩ : ∃ a n c, v8 = .slice a n c := by
        rcases hS8 with ⟨rfl, _⟩ | ⟨g, cap, rfl, _⟩
        · exact ⟨_, _, _, rfl⟩
        · exact ⟨_, _, _, rfl⟩
      obtain ⟨hcut8, hn8, hm8⟩ := hS8.cut hfq
      rw [HFT.out] at hcut8
      obtain ⟨hcutd, _, hmd⟩ := (HD6.out.below hk8).cut hql
      have ha8 := HA6.out.below hk8
      have hr8 := HR6.out.below hk8
      have hd8 := HD6.out.below hk8
      have hc8 := (hk8.cell (p := ⟨B4, 0, none⟩) HZ6.out).trans HC6.out
      have hq8 := (hk8.cell (p := ⟨B2, 0, none⟩) HY6.out).trans HQ6.out
      have hw8 := HW6.out.trans (hk8.mono HW6.out.size)
      have hz8 : B4 < w8.heap.size := Nat.lt_of_lt_of_le HZ6.out hk8.size
      have hy8 : B2 < w8.heap.size := Nat.lt_of_lt_of_le HY6.out hk8.size
      have hx1 : ¬ ((n8 : Int) < (q : Int)) := by omega
      have hx2 : ¬ ((ds.length : Int) < (q : Int)) := by omega
      have H8C := Lib.hid hcut8
      have H8D := Lib.hid hcutd
      have H8A := Lib.hid ha8
      have H8R := Lib.hid hr8
      have H8L := Lib.hid hd8
      have H8W := Lib.hid hw8
      have H8M := Lib.hid hm8
      have H8N := Lib.hid hmd
      have HHc := Lib.hid hc8
      have HHq := Lib.hid hq8
      clear hb8 hS8 HK7 HO2 hk8 hcut8 hn8 hcutd ha8 hr8 hd8 hw8 HA6 HR6 HC6 HZ6 HD6 HW6 HQ6 HY6 HFT
      clear hm8 hmd hc8
      go_wp2_with fail
      have hq0 : IntKind.i64.wrap (q : Int) = (q : Int) := IntWalk.i64_in _ (by omega)
      have hq6 : (q : Int) ≤ (m : Int) := by have := H8N.out; omega
      have hq7 : (0 : Int) ≤ (q : Int) := by omega
      have hq8q : (q : Int) ≤ (m8 : Int) := by have := H8M.out; omega
      have hdl : ds.length ≤ 100000 := by omega
      clear hx1 hx2 hq8 hfl hfq hql
      have hK : Below w8.heap.size w8 w8.drew := (Below.refl _ _).drew
      go_region_held3 (fun w' => w'.cell? ⟨B2, 0, none⟩ = some (.slice ad ds.length m) ∧ w'.cell? ⟨B4, 0, none⟩ = some (.slice a4 n4 m4) ∧ Below w8.heap.size w8 w')
        (exact ⟨(hK.cell (p := ⟨B2, 0, none⟩) hy8).trans HHq.out, (hK.cell (p := ⟨B4, 0, none⟩) hz8).trans HHc.out, hK⟩)
        (first | (go_at_call 50; (first | (with_reducible refine (samedecs_any _ _ ds _ (H8A.out.below hK) (H8L.out.below hK) hdl).mono ?_) | (with_reducible refine (samedecs_any _ _ (ds.take q) _ (H8C.out.below hK) (H8D.out.below hK) (by simp; omega)).mono ?_)); (rintro e v ⟨rfl, hb⟩; have hK := hK.trans (hb.mono hK.size))) | (go_at_call 21; refine (same_any _ _ ds _ (H8R.out.below hK) (H8L.out.below hK) hdl).mono ?_; (rintro e v ⟨rfl, hb⟩; have hK := hK.trans (hb.mono hK.size))) | (go_at_call 51; refine (HWH.out _).mono ?_; (rintro e v ⟨rfl, hb⟩; have hK := hK.trans (hb.mono hK.size))) | (go_at_call 38; refine (awake_any _).mono ?_; (rintro e v ⟨rfl, hb⟩; have hK := hK.trans (hb.mono hK.size))))
      trace_state
      go_wp2
      go_ret
      exact ⟨rfl, H8W.out.trans (hK.mono H8W.out.size)⟩
end Go.Proofs.Ytpjcaanlagibpaa

import Derived.Test.YtpjcaanlagibpaaChg
import Derived.Test.YtpjcaanlagibpaaLedW
namespace Go.Proofs.Ytpjcaanlagibpaa
open Go.RowKit
set_option linter.unusedSimpArgs false
set_option linter.unusedVariables false

set_option maxRecDepth 100000 in
set_option maxHeartbeats 4000000 in
theorem changed_heavy (a : Option Addr) (len cap t y : Nat) (w : World) (hl : 400 < len) (hm : (len : Int) ≤ 9223372036854775807) :
    Calls Try.prog 11 #[.slice a len cap, .int .u16 t, .int .u8 y] w fun e w' => e = .returned (.bool true) ∧ Below w.heap.size w w' := by
  have h1 := fun w1 => light_any a len cap w1 hm
  have hd : decide (len ≤ 400) = false := decide_eq_false (by omega)
  rw [hd] at h1
  have H1 := Lib.hid h1
  clear h1
  go_enter Try.func11, Try.ntmps11
  go_wp2_with fail
  refine (H1.out _).mono ?_
  rintro e w1 ⟨rfl, rfl⟩
  go_wp2_with (go_at_call 38; refine (awake_any _).mono ?_; rintro e w1 ⟨rfl, hb⟩)
  go_ret
  exact ⟨rfl, hb⟩

set_option maxRecDepth 100000 in
set_option maxHeartbeats 4000000 in
theorem changed_light (a : Option Addr) (len cap t y : Nat) (w : World) (hl : len ≤ 400) (hr : RowAt w w.heap.size a len) (ht : t < 65536) (hy : y < 256) :
    Calls Try.prog 11 #[.slice a len cap, .int .u16 t, .int .u8 y] w fun e w' => e = .returned (.bool true) ∧ Below w.heap.size w w' := by
  have h1 := fun w1 => light_any a len cap w1 (by omega)
  have hd : decide (len ≤ 400) = true := decide_eq_true (by omega)
  rw [hd] at h1
  have H1 := Lib.hid h1
  have H2 := Lib.hid (roll_any a len cap w hl hr)
  clear h1 hr hd
  go_enter Try.func11, Try.ntmps11
  go_wp2_with fail
  refine (H1.out _).mono ?_
  rintro e w1 ⟨rfl, rfl⟩
  go_wp2_with fail
  refine H2.out.mono ?_
  rintro e w1 ⟨rfl, hb1, hz1, hd1⟩
  have H3 := Lib.hid (ledger_any w.heap.size 8 w1 hd1 (by omega))
  clear hd1
  go_wp2_with fail
  refine H3.out.mono ?_
  rintro e w2 ⟨v, ds, rfl, hoks, hlen, hown, hdg⟩
  have hb2 : Below w.heap.size w w2 := hb1.trans (hdg.below (Nat.le_refl _) hb1.size)
  have hsd := hown.slice
  have hok : ∀ d ∈ ds, d.ok = true := fun d hd => hoks.ok hd
  obtain ⟨ad, n, m, rfl⟩ := hown.slice_val
  clear hown hoks hb1 hz1 hdg H1 H2 H3
  go_wp2_with fail
  have hbx : Below w2.heap.size w2 (w2.alloc (.cells #[.slice ad n m] 25)) := (Below.refl _ _).alloc (Nat.le_refl _) _
  have hb3 : Below w.heap.size w (w2.alloc (.cells #[.slice ad n m] 25)) := hb2.alloc hb2.size _
  have hs3 := hsd.below hbx
  have hq : World.cell? (w2.alloc (.cells #[.slice ad n m] 25)) ⟨w2.heap.size, 0, none⟩ = some (.slice ad n m) := World.cell?_alloc_at _ _ _ _ rfl
  have hz : w2.heap.size < (w2.alloc (.cells #[.slice ad n m] 25)).heap.size := by simp
  clear hb2 hsd hbx
  generalize w2.alloc (.cells #[.slice ad n m] 25) = W2 at *
  generalize w2.heap.size = B2 at *
  clear w2
  refine (written_any (.slice ad n m) ds W2 hs3 hok (by omega)).mono ?_
  rintro e W3 ⟨rfl, hb4⟩
  have hs4 := hs3.below hb4
  have hq4 := (hb4.cell (p := ⟨B2, 0, none⟩) hz).trans hq
  have hz4 : B2 < W3.heap.size := Nat.lt_of_lt_of_le hz hb4.size
  have hB4 := hb3.trans (hb4.mono hb3.size)
  clear hb3 hq hz hb4 hs3
  have HB := Lib.hid hB4
  have HS := Lib.hid hs4
  have HQ := Lib.hid hq4
  have HZ := Lib.hid hz4
  have HOK := Lib.hid hok
  clear hB4 hs4 hq4 hz4 hok
  clear W2
  rcases Nat.eq_zero_or_pos ds.length with h0 | h0
  · obtain rfl : ds = [] := List.eq_nil_of_length_eq_zero h0
    have he : ByteArray.toList ⟨(recsOf []).toArray⟩ = [] := by rw [ByteArray.toList_eq]; rfl
    have HO := Lib.hid (fun w1 => open_any ⟨(recsOf []).toArray⟩ [] w1 (reads_recs [] (fun d hd => by cases hd) (by simp)))
    generalize (⟨(recsOf []).toArray⟩ : ByteArray) = s at *
    go_wp2_with fail
    refine (HO.out _).mono ?_
    rintro e w4 ⟨v4, rfl, hO4, hb4⟩
    obtain ⟨a4, c4, rfl⟩ : ∃ a4 c4, v4 = .slice a4 0 c4 := by
      rcases hO4.cases with ⟨h1, _⟩ | ⟨g, cap, h1, _⟩
      · exact ⟨_, _, h1⟩
      · exact ⟨_, _, h1⟩
    clear hO4
    go_wp2_with (go_at_call 38; refine (awake_any _).mono ?_; rintro e w5 ⟨rfl, hb5⟩)
    go_ret
    exact ⟨rfl, HB.out.trans (((hb4.trans (hb5.mono hb4.size))).mono HB.out.size)⟩
  · have hsz : ByteArray.size ⟨(recsOf ds).toArray⟩ = 12 * ds.length := by rw [bytes_size, recsOf_length]
    have hdt : ByteArray.data ⟨(recsOf ds).toArray⟩ = (recsOf ds).toArray := rfl
    have hrl := recsOf_length ds
    generalize hs : (⟨(recsOf ds).toArray⟩ : ByteArray) = s at *
    have he : s.toList.isEmpty = false := by
      rw [ByteArray.toList_eq, hdt]
      cases hl : recsOf ds with
      | nil => rw [hl] at hrl; simp at hrl; omega
      | cons a l => rfl
    have hi : (s.size : Int) ≤ 96 := by omega
    have hi0 : (0 : Int) < (s.size : Int) := by omega
    have hm := fun w1 => mod_any' (t : Int) (s.size : Int) w1 (by omega) (by omega) (by omega)
    have hlt : t % s.size < s.size := Nat.mod_lt _ (by omega)
    rw [show (t : Int) % (s.size : Int) = ((t % s.size : Nat) : Int) from by simp] at hm
    generalize t % s.size = i at *
    have HM := Lib.hid hm
    have HC := Lib.hid (fun w1 => bytes_new s w1)
    have HSZ := Lib.hid hsz
    have HDT := Lib.hid hdt
    have hii : (i : Int) < (s.size : Int) := by omega
    clear hm hsz hdt hs
    go_wp2_with fail
    obtain ⟨cap', W4, hrun, hbl, hvs, hcell, hfree⟩ := HC.out W3
    rw [hrun]
    have HCell := Lib.hid hcell
    have HF := Lib.hid hfree
    have HBL := Lib.hid hbl
    have HVS := Lib.hid hvs
    clear hrun hcell hfree hbl hvs HC
    go_wp2_with fail
    refine (HM.out _).mono ?_
    rintro e w4 ⟨rfl, rfl⟩
    clear HM
    obtain ⟨c, hcc⟩ : ∃ c, s.data.toList[i]'(by rw [Array.length_toList]; exact hlt) = c := ⟨_, rfl⟩
    have hc1 := HCell.out i (by rw [Array.length_toList]; exact hlt)
    have hf1 := HF.out i hlt
    rw [hcc] at hc1
    have hcb := c.toNat_lt
    have HCC := Lib.hid hcc
    clear hcc
    go_wp2_with fail
    have hcell5 : ∀ j (h : j < ((recsOf ds).set i (newByte c y)).length), World.cell? (w4.setCell ⟨W3.heap.size, i, none⟩ (.int .u8 (((c.toNat : Int) + (1 + (y : Int) % 255)) % 256))) ⟨W3.heap.size, j, none⟩ = some (.int .u8 (((recsOf ds).set i (newByte c y))[j].toNat : Int)) := by
      intro j hj
      have hnb : ((newByte c y).toNat : Int) = ((c.toNat : Int) + (1 + (y : Int) % 255)) % 256 := by simp [newByte]
      rw [List.getElem_set]
      by_cases hj2 : i = j
      · subst hj2
        rw [World.cell?_setCell_same (h := hc1), if_pos rfl, hnb]
      · rw [World.cell?_setCell_other (h := by intro he; injection he with h1 h2 h3; exact hj2 h2), if_neg hj2]
        have h2 := HCell.out j (by rw [HDT.out]; simpa using hj)
        rw [h2]
        congr 3
        have h3 : s.data.toList = recsOf ds := by rw [HDT.out]
        congr 2
    have hlr : i < (recsOf ds).length := by rw [hrl]; have := HSZ.out; omega
    have hcr : newByte c y ≠ (recsOf ds)[i] := by
      have h3 : s.data.toList = recsOf ds := by rw [HDT.out]
      have : (recsOf ds)[i] = c := by rw [← HCC.out]; congr 1; exact h3.symm
      rw [this]
      exact newByte_ne c y
    have hrd := reads_chg ds i (newByte c y) HOK.out (by omega) hlr hcr
    have hde := fun w1 => decode_chg ds i (newByte c y) (by omega) hlr hcr w1
    have hex : ByteArray.extract ⟨((recsOf ds).set i (newByte c y)).toArray⟩ 0 (12 * (i / 12)) = s.extract 0 (12 * (i / 12)) := by
      apply ByteArray.ext
      rw [ByteArray.data_extract, ByteArray.data_extract, HDT.out]
      apply Array.ext'
      simp
      rw [List.take_set, List.set_eq_of_length_le (by simp; omega)]
    have hb5 : Below W3.heap.size W3 (w4.setCell ⟨W3.heap.size, i, none⟩ (.int .u8 (((c.toNat : Int) + (1 + (y : Int) % 255)) % 256))) := HBL.out.setCell (Nat.le_refl _) _
    have hz5 : W3.heap.size < (w4.setCell ⟨W3.heap.size, i, none⟩ (.int .u8 (((c.toNat : Int) + (1 + (y : Int) % 255)) % 256))).heap.size := by rw [World.size_setCell]; exact HVS.out
    have hll : ((recsOf ds).set i (newByte c y)).length = s.size := by rw [List.length_set, hrl, HSZ.out]
    have hkl : (ds.take (i / 12)).length = i / 12 := by simp; omega
    have hsl : ByteArray.size ⟨((recsOf ds).set i (newByte c y)).toArray⟩ = s.size := by rw [bytes_size, hll]
    have hki : 12 * (i / 12) ≤ i := by omega
    have hki2 : i / 12 ≤ ds.length := by omega
    generalize w4.setCell ⟨W3.heap.size, i, none⟩ (.int .u8 (((c.toNat : Int) + (1 + (y : Int) % 255)) % 256)) = W5 at *
    have HS5 := Lib.hid (HS.out.below hb5)
    have HQ5 := Lib.hid ((hb5.cell (p := ⟨B2, 0, none⟩) HZ.out).trans HQ.out)
    have HB5 := Lib.hid (HB.out.trans (hb5.mono HB.out.size))
    have hz6 : B2 < W5.heap.size := Nat.lt_trans HZ.out hz5
    clear hc1 hf1 hcb hcr hlr
    generalize (recsOf ds).set i (newByte c y) = l' at *
    have hconv : ∀ W', Below W5.heap.size W5 W' → (convert 60 9 (.slice (some ⟨W3.heap.size, 0, none⟩) s.size cap')).run Try.prog W' = .ok (.string ⟨l'.toArray⟩) W' := by
      intro W' hb
      have := run_convert_bytes_back (P := Try.prog) W' 60 9 5 ⟨W3.heap.size, 0, none⟩ cap' l' Try.underlying60 Try.underlying5 Try.underlying9 (fun j hj => by
        have hp : (⟨W3.heap.size, 0, none⟩ : Addr).add j = ⟨W3.heap.size, j, none⟩ := by unfold Addr.add; split <;> simp_all
        rw [hp, hb.cell (p := ⟨W3.heap.size, j, none⟩) hz5]
        exact hcell5 j hj)
      rw [hll] at this
      exact this
    clear hcell5 HCell HF HBL HVS HCC HS HQ HB HZ HDT hb5 hll
    generalize (⟨l'.toArray⟩ : ByteArray) = s' at *
    clear l'
    generalize W3.heap.size = B3 at *
    obtain ⟨es, hes⟩ : ∃ es, es = ds.take (i / 12) := ⟨_, rfl⟩
    rw [← hes] at hkl hrd
    have HES := Lib.hid hes
    clear hes
    generalize hk : i / 12 = k at *
    have hik : (i : Int) / 12 = (k : Int) := by omega
    have HR := Lib.hid hrd
    have HCONV := Lib.hid hconv
    have HEX := Lib.hid hex
    have hde2 : ∀ w1, Calls Try.prog 53 #[.string s', .int .i64 ((k : Int) * 12)] w1 fun e w' => e = .returned (.tuple #[zeroDec, .int .i64 0, .int .i64 58]) ∧ Below w1.heap.size w1 w' := by
      intro w1
      have := hde w1
      rw [show ((12 * k : Nat) : Int) = (k : Int) * 12 from by omega] at this
      exact this
    unfold zeroDec at hde2
    have HDE := Lib.hid hde2
    have HOP := Lib.hid (fun w1 => (open_any s' es w1 hrd).mono (R' := fun e w' => ∃ v : Value, e = .returned (.tuple #[v, .int .i64 ((k : Int) * 12)]) ∧ OwnDecs w' w1.heap.size v es ∧ Below w1.heap.size w1 w') (fun e w' ⟨v, he, h2, h3⟩ => ⟨v, by rw [he, hkl, show ((12 * k : Nat) : Int) = (k : Int) * 12 from by omega], h2, h3⟩))
    have HWH := Lib.hid (fun w1 => (whole_any s' es w1 hrd (by omega) (by omega)).mono (R' := fun e w' => e = .returned (.string (s.extract 0 (k * 12))) ∧ Below w1.heap.size w1 w') (fun e w' ⟨he, h2⟩ => ⟨by rw [he, hkl, hex, Nat.mul_comm], h2⟩))
    clear hrd hconv hex hde hde2 hk
    rw [HCONV.out W5 (Below.refl _ _)]
    go_wp2_with fail
    refine (HOP.out _).mono ?_
    rintro e W6 ⟨v6, rfl, hO6, hb6⟩
    have HS6 := Lib.hid hO6.slice
    obtain ⟨a6, n6, m6, rfl⟩ := hO6.slice_val
    have HB6 := Lib.hid hb6
    clear hO6 hb6 HOP
    go_wp2_with fail
    rw [HCONV.out W6 HB6.out]
    go_wp2_with fail
    refine (HDE.out _).mono ?_
    rintro e W7 ⟨rfl, hb7⟩
    have HB7 := Lib.hid (HB6.out.trans (hb7.mono HB6.out.size))
    have HS7 := Lib.hid (HS6.out.below hb7)
    clear hb7 HS6 HDE HB6 HR
    go_wp2_with fail
    rcases HS5.out with ⟨_, h2⟩ | ⟨g, cap5, hv, hg, hc, hd⟩
    · rw [h2] at h0; simp at h0
    injection hv with hv1 hv2 hv3
    subst hv1 hv2 hv3
    have hb8 : Below W5.heap.size W5 (W7.alloc (.cells #[.int .i64 0, .int .i64 0, .int .i64 0, .int .i64 0, .int .i64 0] 27)) := HB7.out.alloc HB7.out.size _
    have hS8 := HS7.out.below ((Below.refl _ _).alloc (Nat.le_refl _) (.cells #[.int .i64 0, .int .i64 0, .int .i64 0, .int .i64 0, .int .i64 0] 27))
    have hT8 : SliceDecs (W7.alloc (.cells #[.int .i64 0, .int .i64 0, .int .i64 0, .int .i64 0, .int .i64 0] 27)) (.slice (some ⟨g, 0, none⟩) k m) es := by
      refine .inr ⟨g, m, by rw [hkl], Nat.lt_of_lt_of_le hg hb8.size, by omega, ?_⟩
      refine DecsAt.below ?_ hg hb8
      intro j hj
      have := hd j (by omega)
      have he2 : es[j] = ds[j]'(by omega) := by
        have h3 := HES.out
        subst h3
        exact List.getElem_take
      rw [he2]
      exact this
    have hQ8 := (hb8.cell (p := ⟨B2, 0, none⟩) hz6).trans HQ5.out
    have HCV := Lib.hid (fun W' (h : Below (W7.alloc (.cells #[.int .i64 0, .int .i64 0, .int .i64 0, .int .i64 0, .int .i64 0] 27)).heap.size (W7.alloc (.cells #[.int .i64 0, .int .i64 0, .int .i64 0, .int .i64 0, .int .i64 0] 27)) W') => HCONV.out W' (hb8.trans (h.mono hb8.size)))
    have hW8 := HB5.out.trans (hb8.mono HB5.out.size)
    have hz8 : B2 < (W7.alloc (.cells #[.int .i64 0, .int .i64 0, .int .i64 0, .int .i64 0, .int .i64 0] 27)).heap.size := Nat.lt_of_lt_of_le hz6 hb8.size
    have hq1 : IntKind.i64.wrap ((k : Int) * 12) = (k : Int) * 12 := IntWalk.i64_in _ (by omega)
    have hq2 : (i : Int).tdiv 12 = (k : Int) := by rw [Int.tdiv_eq_ediv_of_nonneg (by omega)]; omega
    have hq0 : IntKind.i64.wrap (k : Int) = (k : Int) := IntWalk.i64_in _ (by omega)
    have hq3 : ((k : Int) * 12).toNat = k * 12 := by omega
    have hq4 : (0 : Int) ≤ (k : Int) * 12 := by omega
    have hq5 : (k : Int) * 12 ≤ (s.size : Int) := by omega
    have hq6 : (k : Int) ≤ (m : Int) := by omega
    have hq7 : (0 : Int) ≤ (k : Int) := by omega
    have hes1 : es.length ≤ 100000 := by omega
    clear hik hki hki2 hsl hc hd hg hb8 HB7 HS7 HCONV HB5 HQ5 HS5 HES hz6 hz5
    have H8A := Lib.hid hS8
    have H8B := Lib.hid hT8
    have H8Q := Lib.hid hQ8
    have H8W := Lib.hid hW8
    have H8Z := Lib.hid hz8
    clear hS8 hT8 hQ8 hW8 hz8
    generalize W7.alloc (.cells #[.int .i64 0, .int .i64 0, .int .i64 0, .int .i64 0, .int .i64 0] 27) = W8 at *
    generalize W7.heap.size = B7 at *
    clear W7
    have hK : Below W8.heap.size W8 W8.drew := (Below.refl _ _).drew
    have hcv := HCV.out
    go_region_held3 (fun w' => w'.cell? ⟨B2, 0, none⟩ = some (.slice (some ⟨g, 0, none⟩) ds.length m) ∧ Below W8.heap.size W8 w')
      (exact ⟨(hK.cell (p := ⟨B2, 0, none⟩) H8Z.out).trans H8Q.out, hK⟩)
      (first | (go_at_call 50; refine (samedecs_any _ _ es _ (H8A.out.below hK) (H8B.out.below hK) hes1).mono ?_; (rintro e v ⟨rfl, hb⟩; have hK := hK.trans (hb.mono hK.size))) | (go_at_call 51; refine (HWH.out _).mono ?_; (rintro e v ⟨rfl, hb⟩; have hK := hK.trans (hb.mono hK.size))) | (go_at_call 38; refine (awake_any _).mono ?_; (rintro e v ⟨rfl, hb⟩; have hK := hK.trans (hb.mono hK.size))) | (rw [HCV.out _ hK]))
    clear hcv
    go_wp2
    go_ret
    exact ⟨rfl, H8W.out.trans (hK.mono H8W.out.size)⟩
end Go.Proofs.Ytpjcaanlagibpaa

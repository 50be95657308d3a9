import Derived.Test.YtpjcaanlagibpaaChd
namespace Go.Proofs.Ytpjcaanlagibpaa
open Go.RowKit
set_option linter.unusedSimpArgs false
set_option linter.unusedVariables false

theorem chg_yes {ds : List Dec} {k s : Int} {n : Nat} (h : n < ds.length) (h1 : ds[n].kind = k) (h2 : ds[n].subject = s) (h3 : ¬ ds[n].value = (chgAt ds k s n).2) : chgAt ds k s (n + 1) = ((chgAt ds k s n).1 ++ [n], ds[n].value) := by
  simp only [chgAt, List.getElem?_eq_getElem h]
  rw [if_pos ⟨by simp [hits, h1, h2], h3⟩]
theorem chg_no {ds : List Dec} {k s : Int} {n : Nat} (h : n < ds.length) (hn : ¬ (ds[n].kind = k ∧ ds[n].subject = s ∧ ¬ ds[n].value = (chgAt ds k s n).2)) : chgAt ds k s (n + 1) = chgAt ds k s n := by
  simp only [chgAt, List.getElem?_eq_getElem h]
  rw [if_neg]
  rintro ⟨h1, h2⟩
  simp only [hits, Bool.and_eq_true, decide_eq_true_eq] at h1
  exact hn ⟨h1.1, h1.2, h2⟩

theorem cell_tmp (w : World) (i : Int) (t : TypeId) : ∀ j u, [Value.int .i64 i][j]? = some u → World.cell? (w.drew.alloc (.cells #[.int .i64 i] t)) ((⟨w.heap.size, 0, none⟩ : Addr).add j) = some u := by
  intro j u hu
  have hp' : (⟨w.heap.size, 0, none⟩ : Addr).add j = ⟨w.drew.heap.size, j, none⟩ := by unfold Addr.add; split <;> simp_all
  rw [hp', World.cell?_alloc_at _ _ _ _ rfl, ← hu]
  simp

set_option maxRecDepth 100000 in
set_option maxHeartbeats 2000000 in
theorem changed_any (v : Value) (ds : List Dec) (k s : Int) (w : World) (h : SliceDecs w v ds) (hl : ds.length ≤ 1000) :
    Calls Try.prog 35 #[.agg #[v], .int .i64 k, .int .i64 s] w fun e w' => ∃ u, e = .returned u ∧ NatsAt w' u (chgAt ds k s ds.length).1 ∧ Below w.heap.size w w' := by
  obtain ⟨ad, m, rfl⟩ := h.form
  have hli : (ds.length : Int) ≤ 1000 := by omega
  have HS := Lib.hid h
  clear h
  have hb1 : Below w.heap.size w (w.alloc (.cells #[.slice ad ds.length m] 25)) := (Below.refl _ _).alloc (Nat.le_refl _) _
  have HB1 := Lib.hid hb1
  clear hb1
  go_enter Try.func35, Try.ntmps35
  go_wp2_with fail
  go_loopw [7, 8, 14] (fun u x i wr => ∃ n : Nat, n ≤ ds.length ∧ i = .int .i64 n ∧ x = .int .i64 (chgAt ds k s n).2 ∧ OwnNats wr w.heap.size u (chgAt ds k s n).1 ∧ (chgAt ds k s n).1.length ≤ n ∧ Below w.heap.size w wr) (fun _ _ i _ => ds.length - (intOf i).toNat)
  case atStart => exact ⟨0, Nat.zero_le _, rfl, rfl, ⟨rfl, .inl ⟨rfl, rfl⟩⟩, Nat.le_refl _, HB1.out⟩
  case round =>
    obtain ⟨n, hn, rfl, rfl, hown, hcl, hb⟩ := hrel
    obtain ⟨au, mu, rfl⟩ := hown.form
    by_cases hlt : n < ds.length
    · have hlti : (n : Int) < (ds.length : Int) := by omega
      have hni : (n : Int) ≤ 1000 := by omega
      obtain ⟨g, hg, hdc⟩ : ∃ g, ad = some ⟨g, 0, none⟩ ∧ DecAt wr g (0 + n * 5) ds[n] := by
        rcases HS.out.below hb with ⟨_, h5⟩ | ⟨g, cap2, h5, _, _, h6⟩
        · exact absurd h5 (by intro e; rw [e] at hlt; simp at hlt)
        · injection h5 with h7 h8 h9
          exact ⟨g, h7, h6 n hlt⟩
      subst hg
      obtain ⟨x0, x1, x2, x3, x4⟩ := hdc
      simp only [Nat.zero_add] at x0 x1 x2 x3 x4
      have HCY := Lib.hid (chg_yes (k := k) (s := s) hlt)
      have HCN := Lib.hid (chg_no (k := k) (s := s) hlt)
      generalize ds[n] = y at *
      generalize hnx : chgAt ds k s (n + 1) = cn at *
      generalize chgAt ds k s n = c at *
      obtain ⟨l, c2⟩ := c
      dsimp only at hown hcl HCY HCN ⊢
      have HOWN := Lib.hid hown
      have HB := Lib.hid hb
      have HNX := Lib.hid hnx
      clear hown hb hnx
      by_cases hk1 : y.kind = k
      · by_cases hs1 : y.subject = s
        · by_cases hv1 : y.value = c2
          · have hc := HCN.out (fun q => q.2.2 hv1)
            have HC := Lib.hid hc
            have hba : Below wr.heap.size wr (wr.alloc (.cells #[.int .i64 y.day, .int .i64 y.known, .int .i64 y.kind, .int .i64 y.subject, .int .i64 y.value] 27)) := (Below.refl _ _).alloc (Nat.le_refl _) _
            have HBY := Lib.hid (HB.out.trans (hba.mono HB.out.size))
            have HOY := Lib.hid (HOWN.out.kept (w' := wr.alloc (.cells #[.int .i64 y.day, .int .i64 y.known, .int .i64 y.kind, .int .i64 y.subject, .int .i64 y.value] 27)) (fun q _ hq => hba.block q hq))
            rw [hk1] at x2 HBY HOY
            rw [hs1] at x3 HBY HOY
            rw [hv1] at x4 HBY HOY
            clear hba hc hk1 hs1 hv1
            go_wp2_with fail
            exact ⟨⟨n + 1, by omega, by go_num, by rw [HNX.out, HC.out], by rw [HNX.out, HC.out]; exact HOY.out, by rw [HNX.out, HC.out]; show l.length ≤ n + 1; omega, HBY.out⟩, by simp [intOf]; omega⟩
          · have hc := HCY.out hk1 hs1 hv1
            have HC := Lib.hid hc
            have hba : Below wr.heap.size wr (wr.alloc (.cells #[.int .i64 y.day, .int .i64 y.known, .int .i64 y.kind, .int .i64 y.subject, .int .i64 y.value] 27)) := (Below.refl _ _).alloc (Nat.le_refl _) _
            have HBY := Lib.hid (HB.out.trans (hba.mono HB.out.size))
            have HOY := Lib.hid (HOWN.out.kept (w' := wr.alloc (.cells #[.int .i64 y.day, .int .i64 y.known, .int .i64 y.kind, .int .i64 y.subject, .int .i64 y.value] 27)) (fun q _ hq => hba.block q hq))
            have HCB : Hid ((wr.alloc (.cells #[.int .i64 y.day, .int .i64 y.known, .int .i64 y.kind, .int .i64 y.subject, .int .i64 y.value] 27)).cell? ⟨wr.heap.size, 4, none⟩ = some (.int .i64 y.value) ∧ wr.heap.size < (wr.alloc (.cells #[.int .i64 y.day, .int .i64 y.known, .int .i64 y.kind, .int .i64 y.subject, .int .i64 y.value] 27)).heap.size) := Lib.hid ⟨World.cell?_alloc_at _ _ _ _ rfl, by simp⟩
            have HLT := Lib.hid (HOWN.out.lt)
            have HBS := Lib.hid HB.out.size
            rw [hk1] at x2 HBY HOY HCB
            rw [hs1] at x3 HBY HOY HCB
            clear hba hc hk1 hs1
            go_wp2_with fail
            generalize (wr.alloc (.cells #[.int .i64 y.day, .int .i64 y.known, .int .i64 k, .int .i64 s, .int .i64 y.value] 27)) = Wy at *
            generalize wr.heap.size = By at *
            have hbX : Below Wy.heap.size Wy (Wy.drew.alloc (.cells #[.int .i64 n] 3)) := ((Below.refl _ _).drew).alloc (by simp) _
            have hX5 := hbX.size
            have HO := Lib.hid (show World.ownsRow (Wy.drew.alloc (.cells #[.int .i64 n] 3)) w.heap.size 3 1 (.slice au l.length mu) l.length (natVals l) from HOY.out.kept (fun q _ hq => hbX.block q hq))
            have HSTEP : Hid (∀ v' w6, w6.ownsRow w.heap.size 3 1 v' (l.length + 1) (natVals l ++ [Value.int .i64 n]) → (Wy.drew.alloc (.cells #[.int .i64 n] 3)).grownBy w6 (Value.slice au l.length mu).ownBlock →
                w6.cell? ⟨By, 4, none⟩ = some (.int .i64 y.value) ∧ Below w.heap.size w w6 ∧ OwnNats w6 w.heap.size v' (l ++ [n])) := Lib.hid (by
              intro v' w6 h1 h2
              have hcb := HCB.out
              have hb2 := HBY.out.trans (hbX.mono HBY.out.size)
              refine ⟨?_, hb2.grown h2 hb2.size (fun q e => (HLT.out q e).1), ?_⟩
              · refine (World.cell?_of_block (a := ⟨By, 4, none⟩) (h2.block By (by omega) (fun e => ?_))).trans ((hbX.cell (p := ⟨By, 4, none⟩) hcb.2).trans hcb.1)
                have := (HLT.out By e.symm).2
                omega
              · unfold OwnNats
                rw [natVals_snoc, List.length_append]
                exact h1)
            have HT := Lib.hid (cell_tmp Wy n 3)
            have C2 := Lib.hid (show ∀ u ∈ [Value.int .i64 (n : Int)], u.oneCell' = true from by intro u hu; simp at hu; rcases hu with rfl; rfl)
            have C3 := Lib.hid (show l.length + 1 ≤ maxLen from by unfold maxLen; omega)
            have C4 := Lib.hid (show (l.length + 1) * 8 ≤ 140737488355328 from by omega)
            have HZX := Lib.hid (show w.heap.size ≤ (Wy.drew.alloc (.cells #[.int .i64 n] 3)).heap.size from Nat.le_trans HBY.out.size hX5)
            have y4 := HCB.out.1
            have y4' : World.cell? (Wy.alloc (.cells #[.int .i64 n] 3)) ⟨By, 4, none⟩ = some (.int .i64 y.value) := (hbX.cell (p := ⟨By, 4, none⟩) HCB.out.2).trans HCB.out.1
            obtain ⟨i0, hi, hz0, hz1, hz2⟩ := info_parts infoInt
            clear hbX hX5
            go_region_law (refine step_append_new_Ytpjcaanlagibpaa rfl (.tmp 35) (.tmp 37) 22 rfl w.heap.size 3 i0 (.int .i64 0) 1 8 Try.underlying22 hi hz0 hz1 hz2 rfl (by decide) (.slice au l.length mu) l.length (natVals l) (by simp [Act.eval, Act.put]) HO.out ⟨Wy.heap.size, 0, none⟩ 1 1 [Value.int .i64 n] (by simp [Act.eval, Act.put]) rfl HT.out C2.out C3.out C4.out HZX.out ?_; intro v' w6 hown' hgrow hnew; obtain ⟨q1, q2, q3⟩ := HSTEP.out v' w6 hown' hgrow; have HQ2 := Lib.hid q2; have HQ3 := Lib.hid q3; obtain ⟨g', cap', rfl⟩ := owns_succ hown'; clear hown' hgrow hnew q2 q3)
            all_goals (clear q1)
            all_goals go_wp2_with fail
            all_goals exact ⟨⟨n + 1, by omega, by go_num, by rw [HNX.out, HC.out], by rw [HNX.out, HC.out]; exact HQ3.out, by rw [HNX.out, HC.out]; simp; omega, HQ2.out⟩, by simp [intOf]; omega⟩
        · have hc := HCN.out (fun q => hs1 q.2.1)
          have HC := Lib.hid hc
          have hba : Below wr.heap.size wr (wr.alloc (.cells #[.int .i64 y.day, .int .i64 y.known, .int .i64 y.kind, .int .i64 y.subject, .int .i64 y.value] 27)) := (Below.refl _ _).alloc (Nat.le_refl _) _
          have HBY := Lib.hid (HB.out.trans (hba.mono HB.out.size))
          have HOY := Lib.hid (HOWN.out.kept (w' := wr.alloc (.cells #[.int .i64 y.day, .int .i64 y.known, .int .i64 y.kind, .int .i64 y.subject, .int .i64 y.value] 27)) (fun q _ hq => hba.block q hq))
          rw [hk1] at x2 HBY HOY
          clear hba hc hk1
          go_wp2_with fail
          exact ⟨⟨n + 1, by omega, by go_num, by rw [HNX.out, HC.out], by rw [HNX.out, HC.out]; exact HOY.out, by rw [HNX.out, HC.out]; show l.length ≤ n + 1; omega, HBY.out⟩, by simp [intOf]; omega⟩
      · have hc := HCN.out (fun q => hk1 q.1)
        have HC := Lib.hid hc
        have hba : Below wr.heap.size wr (wr.alloc (.cells #[.int .i64 y.day, .int .i64 y.known, .int .i64 y.kind, .int .i64 y.subject, .int .i64 y.value] 27)) := (Below.refl _ _).alloc (Nat.le_refl _) _
        have HBY := Lib.hid (HB.out.trans (hba.mono HB.out.size))
        have HOY := Lib.hid (HOWN.out.kept (w' := wr.alloc (.cells #[.int .i64 y.day, .int .i64 y.known, .int .i64 y.kind, .int .i64 y.subject, .int .i64 y.value] 27)) (fun q _ hq => hba.block q hq))
        clear hba hc
        go_wp2_with fail
        exact ⟨⟨n + 1, by omega, by go_num, by rw [HNX.out, HC.out], by rw [HNX.out, HC.out]; exact HOY.out, by rw [HNX.out, HC.out]; show l.length ≤ n + 1; omega, HBY.out⟩, by simp [intOf]; omega⟩
    · have hne : n = ds.length := by omega
      subst hne
      have hge : ¬ ((ds.length : Int) < (ds.length : Int)) := by omega
      have HA := Lib.hid hown.at
      have HB := Lib.hid hb
      clear hown hb
      go_wp2_with fail
      go_ret
      exact ⟨_, rfl, HA.out, HB.out⟩
end Go.Proofs.Ytpjcaanlagibpaa

import Derived.Test.YtpjcaanlagibpaaChdL
import Derived.Test.YtpjcaanlagibpaaLawLt
import Derived.Deep.RegionHeld3
namespace Go.Proofs.Ytpjcaanlagibpaa
open Go.RowKit
set_option linter.unusedSimpArgs false
set_option linter.unusedVariables false

theorem upTo_max {ds : List Dec} (hok : OKs ds) : upTo ds 40000 = ds := by
  unfold upTo
  rw [List.filter_eq_self]
  intro d hd
  have := (ok_iff d).1 (hok.ok hd)
  simp
  omega

theorem chg_len (ds : List Dec) (k s : Int) : ∀ i, (chgAt ds k s i).1.length ≤ i := by
  intro i
  induction i with
  | zero => exact Nat.le_refl _
  | succ i ih =>
    simp only [chgAt]
    split
    · omega
    · split
      · simp; omega
      · omega

theorem mem_of {l : List Nat} {j n : Nat} (h : l[j]? = some n) : n ∈ l := List.mem_of_getElem? h

/-- what the law's loop is told of the j-th index -/
theorem chg_tell {ds : List Dec} (hok : OKs ds) (k s : Int) {j n : Nat} (hn : (chgAt ds k s ds.length).1[j]? = some n) :
    ∃ hl : n < ds.length, ds[n].kind = k ∧ ds[n].subject = s := by
  have hc := chgd_all hok k s ds.length (Nat.le_refl _)
  have hl := (hc.lt n (mem_of hn)).2
  exact ⟨hl, hc.hit n hl (mem_of hn)⟩

theorem chg_pair {ds : List Dec} (hok : OKs ds) (k s : Int) {j n p : Nat} (hp : (chgAt ds k s ds.length).1[j]? = some p) (hn : (chgAt ds k s ds.length).1[j + 1]? = some n) :
    ∃ (h1 : n < ds.length) (h2 : p < ds.length), p < n ∧ ¬ ds[n].value = ds[p].value := by
  have hc := chgd_all hok k s ds.length (Nat.le_refl _)
  have hl := (hc.lt n (mem_of hn)).2
  have hl2 := (hc.lt p (mem_of hp)).2
  obtain ⟨q1, q2⟩ := List.getElem?_eq_some_iff.1 hn
  obtain ⟨q3, q4⟩ := List.getElem?_eq_some_iff.1 hp
  have ha := hc.asc j q1
  rw [q2, q4, valAt_lt hl, valAt_lt hl2] at ha
  exact ⟨hl, hl2, ha.1, fun q => ha.2 q.symm⟩

theorem chg_end {ds : List Dec} (hok : OKs ds) (k s : Int) {n : Nat} {d : Dec} (hn : (chgAt ds k s ds.length).1[(chgAt ds k s ds.length).1.length - 1]? = some n) (hd : latestOf ds k s = some d) :
    ∃ hl : n < ds.length, ds[n].value = d.value := by
  have hc := chgd_all hok k s ds.length (Nat.le_refl _)
  have hl := (hc.lt n (mem_of hn)).2
  refine ⟨hl, ?_⟩
  have h1 := hc.lat d (by rw [List.take_length]; exact hd)
  have h2 := hc.last n (by rw [List.getLast?_eq_getElem?, hn])
  rw [h1, h2, valAt_lt hl]

set_option maxRecDepth 100000 in
set_option maxHeartbeats 1000000 in
theorem lchg_heavy (a : Option Addr) (len cap y z : Nat) (w : World) (hl : 400 < len) (hm : (len : Int) ≤ 9223372036854775807) :
    Calls Try.prog 5 #[.slice a len cap, .int .u8 y, .int .u8 z] w fun e w' => e = .returned (.bool true) ∧ Below w.heap.size w w' := by
  have h1 := fun w1 => light_any a len cap w1 hm
  have hd : decide (len ≤ 400) = false := decide_eq_false (by omega)
  rw [hd] at h1
  have H1 := Lib.hid h1
  clear h1
  go_enter Try.func5, Try.ntmps5
  go_wp2_with fail
  refine (H1.out _).mono ?_
  rintro e w1 ⟨rfl, rfl⟩
  go_wp2_with fail
  refine (wake_any _).mono ?_
  rintro e w1 ⟨rfl, hb⟩
  have HB := Lib.hid hb
  clear hb
  go_wp2_with fail
  go_ret
  exact ⟨rfl, HB.out⟩

set_option maxRecDepth 100000 in
set_option maxHeartbeats 2000000 in
theorem lchg_light (a : Option Addr) (len cap y z : Nat) (w : World) (hl : len ≤ 400) (hr : RowAt w w.heap.size a len) (hy : y < 256) (hz : z < 256) :
    Calls Try.prog 5 #[.slice a len cap, .int .u8 y, .int .u8 z] w fun e w' => e = .returned (.bool true) ∧ Below w.heap.size w w' := by
  have h1 := fun w1 => light_any a len cap w1 (by omega)
  have hd : decide (len ≤ 400) = true := decide_eq_true (by omega)
  rw [hd] at h1
  have H1 := Lib.hid h1
  have H2 := Lib.hid (roll_any a len cap w hl hr)
  have hyi : (y : Int) < 256 := by omega
  have hzi : (z : Int) < 256 := by omega
  clear h1 hr hd
  go_enter Try.func5, Try.ntmps5
  go_wp2_with fail
  refine (H1.out _).mono ?_
  rintro e w1 ⟨rfl, rfl⟩
  go_wp2_with fail
  refine H2.out.mono ?_
  rintro e w1 ⟨rfl, hb1, hz1, hd1⟩
  have H3 := Lib.hid (ledger_any w.heap.size 16 w1 hd1 (by omega))
  clear hd1
  go_wp2_with fail
  refine H3.out.mono ?_
  rintro e w2 ⟨v, ds, rfl, hoks, hlen, hown, hdg⟩
  have hb2 : Below w.heap.size w w2 := hb1.trans (hdg.below (Nat.le_refl _) hb1.size)
  have hsd := hown.slice
  obtain ⟨ad, m, rfl⟩ := hsd.form
  clear hown hb1 hz1 hdg H1 H2 H3
  have hbx : Below w2.heap.size w2 (w2.alloc (.cells #[.slice ad ds.length m] 25)) := (Below.refl _ _).alloc (Nat.le_refl _) _
  have HDR := Lib.hid (show Drawn w (w2.alloc (.cells #[.slice ad ds.length m] 25)) w2.heap.size ad m ds 16 from ⟨hb2.alloc hb2.size _, hsd.below hbx, World.cell?_alloc_at _ _ _ _ rfl, by simp, hb2.size, hoks, hlen⟩)
  have hkn : (1 : Int) + (y : Int) % 5 = ((1 + y % 5 : Nat) : Int) := by omega
  have hsn : (z : Int) % 3 = ((z % 3 : Nat) : Int) := by omega
  have HKN := Lib.hid hkn
  have HSN := Lib.hid hsn
  clear hb2 hsd hbx hoks hlen hkn hsn
  go_wp2_with fail
  rw [HKN.out, HSN.out]
  generalize (1 + y % 5 : Nat) = kn at *
  generalize (z % 3 : Nat) = sn at *
  generalize w2.alloc (.cells #[.slice ad ds.length m] 25) = W2 at *
  generalize w2.heap.size = B2 at *
  have hl16 := HDR.out.len
  refine (changed_any (.slice ad ds.length m) ds kn sn W2 HDR.out.sd (by omega)).mono ?_
  rintro e w3 ⟨u, rfl, hu, hb3⟩
  have HDR3 := Lib.hid (HDR.out.step hb3)
  obtain ⟨au, mu, rfl⟩ := hu.form
  have c3 := HDR3.out.cell
  have HLT := Lib.hid (latest_or (.slice ad ds.length m) ds kn sn 40000 w3 HDR3.out.sd HDR3.out.oks (by omega))
  rw [upTo_max HDR3.out.oks] at HLT
  have HU := Lib.hid hu
  clear hu hb3 HDR
  have HTL := Lib.hid (fun j n hn => chg_tell HDR3.out.oks kn sn (j := j) (n := n) hn)
  have HPR := Lib.hid (fun j n p hp hn => chg_pair HDR3.out.oks kn sn (j := j) (n := n) (p := p) hp hn)
  have HEN := Lib.hid (fun n d hn hd => chg_end HDR3.out.oks kn sn (n := n) (d := d) hn hd)
  have hcd := chgd_all HDR3.out.oks (kn : Int) (sn : Int) ds.length (Nat.le_refl _)
  have hno := hcd.none
  rw [List.take_length] at hno
  have hcl : (chgAt ds kn sn ds.length).1.length ≤ 16 := Nat.le_trans (chg_len ds kn sn ds.length) hl16
  have HNO := Lib.hid hno
  clear hcd hno
  generalize (chgAt ds kn sn ds.length).1 = c at *
  have hcli : (c.length : Int) ≤ 16 := by omega
  generalize hoo : latestOf ds kn sn = o at *
  go_wp2_with fail
  refine HLT.out.mono ?_
  rintro e w4 ⟨rfl, hb4⟩
  have HDR4 := Lib.hid (HDR3.out.step hb4)
  have HU4 := Lib.hid (HU.out.below hb4)
  clear hb4 HDR3 c3 HLT HU
  cases o with
  | none =>
    have hc0 : c = [] := HNO.out.1 rfl
    subst hc0
    dsimp only [decOr, Option.getD, Option.isSome]
    go_wp2_with fail
    refine wp_loop_rounds 1 ?_
    rw [rounds_succ]
    go_wp2_with fail
    have hbz : Below w4.heap.size w4 (w4.alloc (.cells #[.int .i64 0, .int .i64 0, .int .i64 0, .int .i64 0, .int .i64 0] 27)) := (Below.refl _ _).alloc (Nat.le_refl _) _
    have HB5 := Lib.hid (HDR4.out.below.trans (hbz.mono HDR4.out.below.size))
    clear hbz
    generalize w4.alloc (.cells #[.int .i64 0, .int .i64 0, .int .i64 0, .int .i64 0, .int .i64 0] 27) = W5 at *
    refine wp_region_any (by kernel_rfl) ?_
    change wpAny _ _ _ _ _ _ _ (World.drew _)
    refine wpAny_take (i := 0) (v := ?_) rfl (by kernel_rfl) (by kernel_rfl) (by kernel_rfl) (fun _ _ _ h => h) (Or.inl ⟨by rfl, ?_⟩) ?_
    rotate_left
    · intro w; go_simp; rfl
    go_simp
    refine wpAny_take (i := 1) (v := ?_) rfl (by kernel_rfl) (by kernel_rfl) (by kernel_rfl) (fun _ _ _ h => h) (Or.inl ⟨by rfl, ?_⟩) ?_
    rotate_left
    · intro w; go_simp; rfl
    go_simp
    refine wpAny_take (i := 2) (v := ?_) rfl (by kernel_rfl) (by kernel_rfl) (by kernel_rfl) (fun _ _ _ h => h) (Or.inl ⟨by rfl, ?_⟩) ?_
    rotate_left
    · intro w; go_simp; rfl
    go_simp
    refine wpAny_take (i := 3) (v := undef) rfl (by kernel_rfl) (by kernel_rfl) (by kernel_rfl) (fun _ _ _ h => h) (Or.inr ⟨by rfl, rfl⟩) ?_
    go_simp
    refine wpAny_take (i := 4) (v := undef) rfl (by kernel_rfl) (by kernel_rfl) (by kernel_rfl) (fun _ _ _ h => h) (Or.inr ⟨by rfl, rfl⟩) ?_
    go_simp
    refine wpAny_take (i := 5) (v := undef) rfl (by kernel_rfl) (by kernel_rfl) (by kernel_rfl) (fun _ _ _ h => h) (Or.inr ⟨by rfl, rfl⟩) ?_
    go_simp
    refine wpAny_take (i := 6) (v := undef) rfl (by kernel_rfl) (by kernel_rfl) (by kernel_rfl) (fun _ _ _ h => h) (Or.inr ⟨by rfl, rfl⟩) ?_
    go_simp
    refine wpAny_take (i := 7) (v := undef) rfl (by kernel_rfl) (by kernel_rfl) (by kernel_rfl) (fun _ _ _ h => h) (Or.inr ⟨by rfl, rfl⟩) ?_
    go_simp
    refine wpAny_take (i := 8) (v := undef) rfl (by kernel_rfl) (by kernel_rfl) (by kernel_rfl) (fun _ _ _ h => h) (Or.inr ⟨by rfl, rfl⟩) ?_
    go_simp
    refine wpAny_take (i := 9) (v := undef) rfl (by kernel_rfl) (by kernel_rfl) (by kernel_rfl) (fun _ _ _ h => h) (Or.inr ⟨by rfl, rfl⟩) ?_
    go_simp
    refine wpAny_take (i := 10) (v := undef) rfl (by kernel_rfl) (by kernel_rfl) (by kernel_rfl) (fun _ _ _ h => h) (Or.inr ⟨by rfl, rfl⟩) ?_
    go_simp
    refine wpAny_take (i := 11) (v := undef) rfl (by kernel_rfl) (by kernel_rfl) (by kernel_rfl) (fun _ _ _ h => h) (Or.inr ⟨by rfl, rfl⟩) ?_
    go_simp
    refine wpAny_take (i := 12) (v := undef) rfl (by kernel_rfl) (by kernel_rfl) (by kernel_rfl) (fun _ _ _ h => h) (Or.inr ⟨by rfl, rfl⟩) ?_
    go_simp
    refine wpAny_take (i := 13) (v := undef) rfl (by kernel_rfl) (by kernel_rfl) (by kernel_rfl) (fun _ _ _ h => h) (Or.inr ⟨by rfl, rfl⟩) ?_
    go_simp
    refine wpAny_take (i := 14) (v := undef) rfl (by kernel_rfl) (by kernel_rfl) (by kernel_rfl) (fun _ _ _ h => h) (Or.inr ⟨by rfl, rfl⟩) ?_
    go_simp
    refine wpAny_take (i := 15) (v := undef) rfl (by kernel_rfl) (by kernel_rfl) (by kernel_rfl) (fun _ _ _ h => h) (Or.inr ⟨by rfl, rfl⟩) ?_
    go_simp
    refine wpAny_take (i := 16) (v := undef) rfl (by kernel_rfl) (by kernel_rfl) (by kernel_rfl) (fun _ _ _ h => h) (Or.inr ⟨by rfl, rfl⟩) ?_
    go_simp
    refine wpAny_take (i := 17) (v := ?_) rfl (by kernel_rfl) (by kernel_rfl) (by kernel_rfl) (fun _ _ _ h => h) (Or.inl ⟨by rfl, ?_⟩) ?_
    rotate_left
    · intro w; go_simp; rfl
    go_simp
    refine wpAny_take (i := 18) (v := ?_) rfl (by kernel_rfl) (by kernel_rfl) (by kernel_rfl) (fun _ _ _ h => h) (Or.inl ⟨by rfl, ?_⟩) ?_
    rotate_left
    · intro w; go_simp; rfl
    go_simp
    refine wpAny_ready (rs := [19]) (by kernel_rfl) (by simp) ?_
    refine AllReady.cons rfl (fun K hK => ?_) AllReady.nil
    go_simp
    refine (wake_any _).mono ?_
    rintro e v ⟨rfl, hb⟩
    go_simp
    refine hK _ _ ?_
    clear hK K
    refine wpAny_take (i := 20) (v := ?_) rfl (by kernel_rfl) (by kernel_rfl) (by kernel_rfl) (fun _ _ _ h => h) (Or.inl ⟨by rfl, ?_⟩) ?_
    rotate_left
    · intro w; go_simp; rfl
    go_simp
    refine wpAny_take (i := 21) (v := ?_) rfl (by kernel_rfl) (by kernel_rfl) (by kernel_rfl) (fun _ _ _ h => h) (Or.inl ⟨by rfl, ?_⟩) ?_
    rotate_left
    · intro w; go_simp; rfl
    go_simp
    refine wpAny_done (by kernel_rfl) ?_ _
    have HF := Lib.hid (HB5.out.trans ((((Below.refl W5.heap.size W5).drew).trans hb).mono HB5.out.size))
    clear hb
    go_wp2_with fail
    go_ret
    exact ⟨rfl, HF.out⟩
  | some d =>
    have hpos : 0 < c.length := by
      rcases Nat.eq_zero_or_pos c.length with h | h
      · have := HNO.out.2 (List.eq_nil_of_length_eq_zero h)
        cases this
      · exact h
    have hposi : (0 : Int) < (c.length : Int) := by omega
    dsimp only [decOr, Option.getD, Option.isSome]
    go_wp2_with fail
    have hbz : Below w4.heap.size w4 (w4.alloc (.cells #[.int .i64 d.day, .int .i64 d.known, .int .i64 d.kind, .int .i64 d.subject, .int .i64 d.value] 27)) := (Below.refl _ _).alloc (Nat.le_refl _) _
    have HDR5 := Lib.hid (HDR4.out.step hbz)
    have HU5 := Lib.hid (HU4.out.below hbz)
    have HV5 : Hid ((w4.alloc (.cells #[.int .i64 d.day, .int .i64 d.known, .int .i64 d.kind, .int .i64 d.subject, .int .i64 d.value] 27)).cell? ⟨w4.heap.size, 4, none⟩ = some (.int .i64 d.value) ∧ w4.heap.size < (w4.alloc (.cells #[.int .i64 d.day, .int .i64 d.known, .int .i64 d.kind, .int .i64 d.subject, .int .i64 d.value] 27)).heap.size) := Lib.hid ⟨World.cell?_alloc_at _ _ _ _ rfl, by simp⟩
    clear hbz
    generalize w4.alloc (.cells #[.int .i64 d.day, .int .i64 d.known, .int .i64 d.kind, .int .i64 d.subject, .int .i64 d.value] 27) = W5 at *
    generalize w4.heap.size = B4 at *
    obtain ⟨gc, hgc, hgl, hcells⟩ : ∃ gc, au = some ⟨gc, 0, none⟩ ∧ gc < W5.heap.size ∧ ∀ (j n : Nat), c[j]? = some n → W5.cell? ⟨gc, j, none⟩ = some (.int .i64 (n : Int)) := by
      rcases HU5.out with ⟨h5, h6⟩ | ⟨g, cap, h5, h6, h7⟩
      · rw [h6] at hpos; simp at hpos
      · injection h5 with h8 h9 h10
        refine ⟨g, h8, h6, fun j n hn => ?_⟩
        obtain ⟨q1, q2⟩ := List.getElem?_eq_some_iff.1 hn
        rw [h7 j q1, q2]
    subst hgc
    have HCE := Lib.hid hcells
    clear hcells HDR4 HU4 HU5 HNO
    go_loopw [47] (fun i wr => ∃ j : Nat, j ≤ c.length ∧ i = .int .i64 j ∧ Below W5.heap.size W5 wr) (fun i _ => c.length - (intOf i).toNat)
    case atStart => exact ⟨0, Nat.zero_le _, rfl, Below.refl _ _⟩
    case round =>
      obtain ⟨j, hj, rfl, hb⟩ := hrel
      have HDR6 := Lib.hid (HDR5.out.step hb)
      have c6 := HDR6.out.cell
      by_cases hlt : j < c.length
      · have hlti : (j : Int) < (c.length : Int) := by omega
        have hji : (j : Int) ≤ 16 := by omega
        obtain ⟨n, hn⟩ : ∃ n, c[j]? = some n := ⟨_, List.getElem?_eq_getElem hlt⟩
        have y0 := (hb.cell (p := ⟨gc, j, none⟩) hgl).trans (HCE.out j n hn)
        obtain ⟨hnl, hkd, hsb⟩ := HTL.out j n hn
        have hnli : (n : Int) < (ds.length : Int) := by omega
        have hn16 : (n : Int) ≤ 16 := by omega
        have hn0 : decide ((n : Int) < 0) = false := decide_eq_false (by omega)
        have hn1 : decide (ds.length ≤ n) = false := decide_eq_false (by omega)
        obtain ⟨g, hg⟩ : ∃ g, ad = some ⟨g, 0, none⟩ ∧ ∀ q (hq : q < ds.length), DecAt wr g (0 + q * 5) ds[q] := by
          rcases HDR6.out.sd with ⟨_, h5⟩ | ⟨g, cap2, h5, _, _, h6⟩
          · exact absurd h5 (by intro e; rw [e] at hnl; simp at hnl)
          · injection h5 with h7 h8 h9
            exact ⟨g, h7, h6⟩
        obtain ⟨hg1, hg2⟩ := hg
        subst hg1
        obtain ⟨_, _, x2, x3, x4⟩ := hg2 n hnl
        simp only [Nat.zero_add] at x2 x3 x4
        rw [hkd] at x2
        rw [hsb] at x3
        have HB := Lib.hid hb
        clear hb hkd hsb
        rcases Nat.eq_zero_or_pos j with h0 | h0
        · have hj1 : decide (0 < j) = false := decide_eq_false (by omega)
          clear hg2 h0
          generalize ds[n].value = vn at *
          go_wp2_with fail
          refine wp_region_quiet_lit (by kernel_rfl) (by kernel_rfl) ?_
          repeat (any_goals (first | go_big_quiet_step (fail) | quiet_step (fail)))
          refine wpQuiet_nil ?_
          intro _ hw'
          obtain ⟨nq, hw''⟩ := hw'
          subst hw''
          have HBd := Lib.hid (below_drewN HB.out nq)
          clear y0 x2 x3 x4 c6 hn0 hn1 hj1
          generalize wr.drewN nq = wq at *
          go_wp2_with fail
          exact ⟨⟨j + 1, by omega, by go_num, HBd.out⟩, by simp [intOf]; omega⟩
        · have hj0 : (0 : Int) < (j : Int) := by omega
          have hj1 : decide (0 < j) = true := decide_eq_true h0
          obtain ⟨q, hq⟩ : ∃ q, j = q + 1 := ⟨j - 1, by omega⟩
          obtain ⟨p, hp⟩ : ∃ p, c[q]? = some p := ⟨_, List.getElem?_eq_getElem (by omega)⟩
          have z0 := (HB.out.cell (p := ⟨gc, q, none⟩) hgl).trans (HCE.out q p hp)
          obtain ⟨_, hpl, hpn, hne⟩ := HPR.out q n p hp (by rw [← hq]; exact hn)
          have hpni : (p : Int) < (n : Int) := by omega
          have hpli : (p : Int) < (ds.length : Int) := by omega
          obtain ⟨_, _, _, _, w4'⟩ := hg2 p hpl
          simp only [Nat.zero_add] at w4'
          have hjq : (j : Int) - 1 = (q : Int) := by omega
          have hqc : (q : Int) < (c.length : Int) := by omega
          clear hg2 hq h0 hj0
          generalize ds[n].value = vn at *
          generalize ds[p].value = vp at *
          have hD : decide (n ≤ p) = false := decide_eq_false (by omega)
          have hE : (vn == vp) = false := by simpa using hne
          go_wp2_with fail
          refine wp_region_quiet_lit (by kernel_rfl) (by kernel_rfl) ?_
          repeat (any_goals (first | go_big_quiet_step (fail) | quiet_step (fail)))
          refine wpQuiet_nil ?_
          intro _ hw'
          obtain ⟨nq, hw''⟩ := hw'
          subst hw''
          have HBd := Lib.hid (below_drewN HB.out nq)
          clear y0 x2 x3 x4 c6 z0 w4' hn0 hn1 hj1 hD hE hjq
          generalize wr.drewN nq = wq at *
          go_wp2_with fail
          exact ⟨⟨j + 1, by omega, by go_num, HBd.out⟩, by simp [intOf]; omega⟩
      · have hje : j = c.length := by omega
        subst hje
        obtain ⟨q, hq⟩ : ∃ q, c.length = q + 1 := ⟨c.length - 1, by omega⟩
        obtain ⟨n, hn⟩ : ∃ n, c[q]? = some n := ⟨_, List.getElem?_eq_getElem (by omega)⟩
        have z0 := (hb.cell (p := ⟨gc, q, none⟩) hgl).trans (HCE.out q n hn)
        obtain ⟨hnl, hnv⟩ := HEN.out n d (by rw [hq]; exact hn) rfl
        have hv5 := (hb.cell (p := ⟨B4, 4, none⟩) HV5.out.2).trans HV5.out.1
        have hjq : (c.length : Int) - 1 = (q : Int) := by omega
        have hqc : (q : Int) < (c.length : Int) := by omega
        have hnli : (n : Int) < (ds.length : Int) := by omega
        have hn16 : (n : Int) ≤ 16 := by omega
        obtain ⟨g, hg⟩ : ∃ g, ad = some ⟨g, 0, none⟩ ∧ g < wr.heap.size ∧ ∀ q (hq : q < ds.length), DecAt wr g (0 + q * 5) ds[q] := by
          rcases HDR6.out.sd with ⟨_, h5⟩ | ⟨g, cap2, h5, h6', _, h6⟩
          · exact absurd h5 (by intro e; rw [e] at hnl; simp at hnl)
          · injection h5 with h7 h8 h9
            exact ⟨g, h7, h6', h6⟩
        obtain ⟨hg1, hgl2, hg2⟩ := hg
        subst hg1
        obtain ⟨_, _, _, _, x4⟩ := hg2 n hnl
        simp only [Nat.zero_add] at x4
        rw [hnv] at x4
        have hgc2 : gc < wr.heap.size := Nat.lt_of_lt_of_le hgl hb.size
        have hB4 : B4 < wr.heap.size := Nat.lt_of_lt_of_le HV5.out.2 hb.size
        have hB2 := HDR6.out.lt
        clear hb hq hg2 hnv
        go_wp2_with fail
        have hK : Below wr.heap.size wr wr.drew := (Below.refl _ _).drew
        have hq0 : IntKind.i64.wrap (q : Int) = (q : Int) := IntWalk.i64_in _ (by omega)
        have hq1 : (0 : Int) ≤ (q : Int) := by omega
        have hn0 : (0 : Int) ≤ (n : Int) := by omega
        go_region_held3 (fun w' => w'.cell? ⟨B2, 0, none⟩ = some (.slice (some ⟨g, 0, none⟩) ds.length m) ∧ w'.cell? ⟨gc, q, none⟩ = some (.int .i64 (n : Int)) ∧ w'.cell? ⟨g, n * 5 + 4, none⟩ = some (.int .i64 d.value) ∧ w'.cell? ⟨B4, 4, none⟩ = some (.int .i64 d.value) ∧ Below wr.heap.size wr w')
              (exact ⟨(hK.cell (p := ⟨B2, 0, none⟩) hB2).trans c6, (hK.cell (p := ⟨gc, q, none⟩) hgc2).trans z0, (hK.cell (p := ⟨g, n * 5 + 4, none⟩) hgl2).trans x4, (hK.cell (p := ⟨B4, 4, none⟩) hB4).trans hv5, hK⟩)
              (first | (go_at_call 14; refine (wake_any _).mono ?_; (rintro e v ⟨rfl, hb⟩; have hK := hK.trans (hb.mono hK.size))))
        have HF := Lib.hid (HDR6.out.below.trans (hK.mono HDR6.out.below.size))
        clear hK
        go_wp2_with fail
        go_ret
        exact ⟨rfl, HF.out⟩
end Go.Proofs.Ytpjcaanlagibpaa

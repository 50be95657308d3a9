import Derived.Test.YtpbahffkhpfakaaWEa1Z
namespace Go.Proofs.Ytpbahffkhpfakaa
open Go.RowKit
set_option linter.unusedSimpArgs false
set_option linter.unusedVariables false

/-! ## Earliest -/

def earlE (c : Cal) (ts ds : List Int) (t : Int) : Int := if loadE c ts ds [t] ≠ 0 then loadE c ts ds [t] else if fullB c (loadN c (ts.zip ds)) = true then 48 else 0
def earlD (c : Cal) (ts ds : List Int) (t d : Int) : Int × Bool := if earlE c ts ds t ≠ 0 then (0, false) else firstD d (suitB c (loadN c (ts.zip ds)) t.toNat) 0 c.wins

structure Ea (w W : World) (c : Cal) (t : Int) : Prop where
  box : Box w W w.heap.size c
  dt : W.cell? ⟨w.heap.size + 1, 0, none⟩ = some (.int .i64 t)
  ht : w.heap.size + 1 < W.heap.size
theorem Ea.later {w W W2 : World} {c : Cal} {t : Int} (h : Ea w W c t) (hb : Below W.heap.size W W2) : Ea w W2 c t :=
  ⟨h.box.later hb, (hb.cell (p := ⟨w.heap.size + 1, 0, none⟩) h.ht).trans h.dt, Nat.lt_of_lt_of_le h.ht hb.size⟩
theorem ea0 (w : World) (c : Cal) (t : Int) (h : CalAt w c) : Ea w ((w.alloc (.cells #[c.wv, c.tv, c.rv] 25)).alloc (.cells #[.int .i64 t] 3)) c t := by
  have hB := box w c h
  have s1 : (w.alloc (.cells #[c.wv, c.tv, c.rv] 25)).heap.size = w.heap.size + 1 := by simp
  generalize w.alloc (.cells #[c.wv, c.tv, c.rv] 25) = W1 at hB s1 ⊢
  have hb2 : Below W1.heap.size W1 (W1.alloc (.cells #[.int .i64 t] 3)) := (Below.refl _ _).alloc (Nat.le_refl _) _
  refine ⟨hB.later hb2, ?_, by simp [s1]⟩
  rw [← s1]
  exact World.cell?_alloc_at _ _ _ _ rfl
theorem ask_at (W : World) (t : Int) (T : TypeId) : IntsAt (W.alloc (.cells #[.int .i64 t] T)) (.slice (some ⟨W.heap.size, 0, none⟩) 1 1) [t] := by
  refine ⟨by simp, _, 1, rfl, .inr ⟨W.heap.size, 0, rfl, by simp, fun j hj => ?_⟩⟩
  have : j = 0 := by simpa using hj
  subst this
  exact World.cell?_alloc_at _ _ _ _ rfl
theorem range_ask {c : Cal} {ts ds : List Int} {t : Int} (h : loadE c ts ds [t] = 0) : 0 ≤ t ∧ t < (c.room.length : Int) := by
  unfold loadE at h
  rw [if_neg (by rw [loadE_zero h]; simp)] at h
  split at h
  · cases h
  split at h
  · cases h
  split at h
  · cases h
  · rename_i hr
    unfold rangeB at hr
    simp only [Bool.not_eq_false, List.all_append, Bool.and_eq_true, List.all_cons, List.all_nil, Bool.and_true] at hr
    have := hr.2
    unfold inB at this
    simp at this
    omega
theorem firstD_congr {d : Int} {p q : Nat → Bool} : ∀ (ws : List Win) (k : Nat), (∀ j, k ≤ j → j < k + ws.length → p j = q j) → firstD d p k ws = firstD d q k ws := by
  intro ws
  induction ws with
  | nil => intro k _; rfl
  | cons x l ih =>
    intro k h
    rw [firstD, firstD, h k (Nat.le_refl _) (by simp), ih (k + 1) (fun j h1 h2 => h j (by omega) (by simp; omega))]
theorem suitB_congr {c : Cal} {f g : Nat → Int} {t k : Nat} (h : f (k * 8 + t) = g (k * 8 + t)) : suitB c f t k = suitB c g t k := by
  unfold suitB; rw [h]
theorem SuitOn.congr {g : Nat} {lb : Array Value} {p q : Nat → Bool} {n : Nat} {w : World} (h : SuitOn g lb p n w) (e : ∀ k, k < n → p k = q k) : SuitOn g lb q n w := fun W k hk hb => by
  rw [← e k hk]; exact h W k hk hb

set_option maxRecDepth 100000 in
set_option maxHeartbeats 8000000 in
theorem earliest_any (c : Cal) (v1 v2 : Value) (ts ds : List Int) (t d : Int) (w : World) (h : CalAt w c) (h1 : IntsAt w v1 ts) (h2 : IntsAt w v2 ds) (n1 : NilOk v1) :
    Calls Try.prog 23 #[c.val, v1, v2, .int .i64 t, .int .i64 d] w fun e w' => e = .returned (.tuple #[.int .i64 (earlD c ts ds t d).1, .bool (earlD c ts ds t d).2, .int .i64 (earlE c ts ds t)]) ∧ Below w.heap.size w w' := by
  have H0 := Lib.hid (ea0 w c t h)
  have HLD := Lib.hid (fun W v3 (hW : Below w.heap.size w W) (h3 : IntsAt W v3 [t]) (n3 : NilOk v3) => load_any c v1 v2 v3 ts ds [t] W (h.below hW) (h1.below hW) (h2.below hW) h3 n1 n3 (by simp))
  have HFU := Lib.hid (fun f W (hW : Below w.heap.size w W) (h0 : loadE c ts ds [t] = 0) => full_any c f W (h.below hW) (ok0_of (loadE_zero h0)).room)
  have HROOM := Lib.hid (fun (h0 : loadE c ts ds [t] = 0) => ok0_of (loadE_zero h0))
  have HRNG := Lib.hid (fun (h0 : loadE c ts ds [t] = 0) => range_ask h0)
  have HFST := Lib.hid (fun lb q W (hW : Below w.heap.size w W) (hs : SuitOn 55 lb q c.wins.length W) => first_any c d 55 lb (enters_of Try.func55 (by kernel_rfl) rfl) q W (h.below hW) hs)
  obtain ⟨wa, wc, ta, tc, ra, rc, e1, e2, e3⟩ := h.forms
  have hv : c.val = .agg #[.slice wa c.wins.length wc, .slice ta c.team.length tc, .slice ra c.room.length rc] := by unfold Cal.val; rw [e1, e2, e3]
  rw [hv] at HLD HFU HFST ⊢
  rw [e1, e2, e3] at H0
  have HD := Lib.hid (fun (W : World) (hL : Ea w W c t) => show W.cell? ⟨w.heap.size, 0, none⟩ = some (.slice wa c.wins.length wc) ∧ W.cell? ⟨w.heap.size, 1, none⟩ = some (.slice ta c.team.length tc) ∧ W.cell? ⟨w.heap.size, 2, none⟩ = some (.slice ra c.room.length rc) ∧ W.cell? ⟨w.heap.size + 1, 0, none⟩ = some (.int .i64 t) from ⟨by rw [← e1]; exact hL.box.d0, by rw [← e2]; exact hL.box.d1, by rw [← e3]; exact hL.box.d2, hL.dt⟩)
  obtain ⟨a1, m1, rfl⟩ := h1.form
  obtain ⟨a2, m2, rfl⟩ := h2.form
  clear h hv e1 e2 e3 h1 h2 n1
  obtain ⟨q, hq⟩ : ∃ q, q = earlE c ts ds t := ⟨_, rfl⟩
  obtain ⟨z, hz⟩ : ∃ z, z = earlD c ts ds t d := ⟨_, rfl⟩
  rw [← hz, ← hq]
  unfold earlD at hz
  rw [← hq] at hz
  unfold earlE at hq
  have HQ := Lib.hid hq
  have HZ := Lib.hid hz
  clear hq hz
  go_enter Try.func23, Try.ntmps23
  go_wp2_with fail
  have hs : ((w.alloc (.cells #[.slice wa c.wins.length wc, .slice ta c.team.length tc, .slice ra c.room.length rc] 25)).alloc (.cells #[.int .i64 t] 3)).heap.size = w.heap.size + 1 + 1 := by simp
  generalize (w.alloc (.cells #[.slice wa c.wins.length wc, .slice ta c.team.length tc, .slice ra c.room.length rc] 25)).alloc (.cells #[.int .i64 t] 3) = W0 at *
  have ask := ask_at W0 t 3
  rw [hs] at ask
  have H1 := Lib.hid (H0.out.later ((Below.refl W0.heap.size W0).alloc (Nat.le_refl _) (.cells #[.int .i64 t] 3)))
  refine (HLD.out _ _ H1.out.box.below ask (fun n m e => by cases e)).mono ?_
  clear ask
  rintro e w1 ⟨f, rfl, hf, hb⟩
  have H2 := Lib.hid (H1.out.later hb)
  have HF := Lib.hid hf
  have hz := store_new w1 76
  clear hb hf hs H0 H1 HLD
  obtain ⟨X, hX⟩ : ∃ X, X = lval f := ⟨_, rfl⟩
  rw [← hX]
  have HX := Lib.hid hX
  clear hX
  obtain ⟨le, hle⟩ : ∃ n, n = loadE c ts ds [t] := ⟨_, rfl⟩
  rw [← hle] at HF HQ HFU HROOM HRNG ⊢
  clear hle
  have HNEW := Lib.hid (fun (W2 : World) (e : W2 = (w1.alloc (.cells Try.zeroCells76 76)).setCells w1.heap.size 0 (nums 256 f)) => show Ea w W2 c t ∧ Counts W2 w1.heap.size 0 256 f ∧ w1.heap.size < W2.heap.size from by
    subst e
    have hb : Below w1.heap.size w1 ((w1.alloc (.cells Try.zeroCells76 76)).setCells w1.heap.size 0 (nums 256 f)) := Below.setCells' _ _ ((Below.refl _ _).alloc (Nat.le_refl _) _) (Nat.le_refl _)
    exact ⟨H2.out.later hb, Counts.set hz, by rw [setCells_size]; simp⟩)
  by_cases h0 : le = 0
  · subst h0
    go_wp2_with (first
      | (refine wxo_store hz HX.out rfl rfl rfl ?_; intro W2 HW2; have hd := HD.out W2 (HNEW.out W2 HW2.out).1; have hc := (HNEW.out W2 HW2.out).2.1)
      | (refine wxl_store hz HX.out rfl rfl rfl rfl ?_; intro W2 HW2; have hd := HD.out W2 (HNEW.out W2 HW2.out).1; have hc := (HNEW.out W2 HW2.out).2.1)
      | (refine wxo_load hc HX.out rfl rfl ?_) | (refine wxl_load hc HX.out rfl rfl rfl ?_))
    have HB := Lib.hid (HNEW.out W2 HW2.out)
    have HC := HFU.out f W2 HB.out.1.box.below trivial
    rw [← HX.out] at HC
    have HC' := Lib.hid HC
    clear HC hc hd hz HNEW
    refine HC'.out.mono ?_
    rintro e w3 ⟨rfl, hb⟩
    have HB3 := Lib.hid (show Ea w w3 c t ∧ Counts w3 w1.heap.size 0 256 f ∧ w1.heap.size < w3.heap.size from ⟨HB.out.1.later hb, HB.out.2.1.below hb HB.out.2.2, Nat.lt_of_lt_of_le HB.out.2.2 hb.size⟩)
    clear hb
    have HQ2 := Lib.hid (show q = if fullB c f = true then 48 else 0 by
      rw [HQ.out, if_neg (by simp), fullB_congr (HROOM.out trivial).room (HF.out trivial)])
    cases hfb : fullB c f with
    | true =>
      have hq : q = 48 := by rw [HQ2.out, hfb]; rfl
      have hzz : z = (0, false) := by rw [HZ.out, if_pos (by rw [hq]; decide)]
      subst hq
      subst hzz
      go_wp2_with fail
      go_ret3
      exact ⟨rfl, HB3.out.1.box.below⟩
    | false =>
      have hq : q = 0 := by rw [HQ2.out, hfb]; rfl
      obtain ⟨k, rfl⟩ : ∃ k : Nat, t = (k : Int) := ⟨t.toNat, by have := HRNG.out trivial; omega⟩
      have hzz : z = firstD d (suitB c f k) 0 c.wins := by
        rw [HZ.out, if_neg (by rw [hq]; decide)]
        have e1 : ((k : Int)).toNat = k := by simp
        rw [e1]
        refine firstD_congr _ _ fun j _ hj => suitB_congr ?_
        have h1 := HRNG.out trivial
        have h2 := HROOM.out trivial
        have h3 := h2.wins
        have h4 := h2.room
        exact (HF.out trivial _ (by omega)).symm
      subst hq
      have HZ2 := Lib.hid hzz
      clear hzz
      have hd := HD.out w3 HB3.out.1
      have hsu := suit_any c f k w.heap.size (w.heap.size + 1) w1.heap.size w w3 HB3.out.1.box HB3.out.1.dt HB3.out.1.ht HB3.out.2.1 HB3.out.2.2 (by have := HRNG.out trivial; omega) (HROOM.out trivial).room (HROOM.out trivial).wins
      have hfi := HFST.out _ _ w3 HB3.out.1.box.below hsu
      rw [← HZ2.out] at hfi
      have HFI := Lib.hid hfi
      clear hsu hfi HFST HFU HC'
      have hmf : ∀ (fn : Fn) (first cap : Array Value) (w : World), (Instr.makeFunc fn first cap).run Try.prog w = .ok (.func fn first cap) w := fun _ _ _ _ => rfl
      go_wp2_with fail
      refine HFI.out.mono ?_
      rintro e w4 ⟨rfl, hb⟩
      go_wp2_with fail
      go_ret3
      exact ⟨rfl, HB3.out.1.box.below.trans (hb.mono HB3.out.1.box.below.size)⟩
  · have hq : q = le := by rw [HQ.out, if_pos h0]
    have hzz : z = (0, false) := by rw [HZ.out, if_pos (by rw [hq]; exact h0)]
    subst hq
    subst hzz
    go_wp2_with (first
      | (refine wxo_store hz HX.out rfl rfl rfl ?_; intro W2 HW2; have hd := HD.out W2 (HNEW.out W2 HW2.out).1; have hc := (HNEW.out W2 HW2.out).2)
      | (refine wxl_store hz HX.out rfl rfl rfl rfl ?_; intro W2 HW2; have hd := HD.out W2 (HNEW.out W2 HW2.out).1; have hc := (HNEW.out W2 HW2.out).2))
    go_ret3
    exact ⟨rfl, (HNEW.out W2 HW2.out).1.box.below⟩
end Go.Proofs.Ytpbahffkhpfakaa


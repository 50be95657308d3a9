import Derived.Test.YtpbahffkhpfakaaWFul2Z
namespace Go.Proofs.Ytpbahffkhpfakaa
open Go.RowKit
set_option linter.unusedSimpArgs false
set_option linter.unusedVariables false

/-! ## Fits -/

theorem fullB_congr {c : Cal} {f g : Nat → Int} (h8 : c.room.length ≤ 8) (h : ∀ o, o < 256 → f o = g o) : fullB c f = fullB c g := by
  cases hg : fullB c g with
  | false =>
    refine fullB_no fun i hi t ht => ?_
    rw [h _ (by omega)]
    by_cases hc : g (i * 8 + t) ≤ c.room[t]
    · exact hc
    · rw [fullB_yes hi ht (by omega)] at hg
      cases hg
  | true =>
    cases hf : fullB c f with
    | true => rfl
    | false =>
      have : fullB c g = false := fullB_no fun i hi t ht => by
        rw [← h _ (by omega)]
        by_cases hc : f (i * 8 + t) ≤ c.room[t]
        · exact hc
        · rw [fullB_yes hi ht (by omega)] at hf
          cases hf
      rw [this] at hg
      cases hg

def fitsE (c : Cal) (ts ds : List Int) : Int := if loadE c ts ds [] ≠ 0 then loadE c ts ds [] else if fullB c (loadN c (ts.zip ds)) = true then 48 else 0

theorem store_new (w : World) (T : TypeId) : Counts (w.alloc (.cells Try.zeroCells76 T)) w.heap.size 0 256 fun _ => 0 := fun j hj => ⟨by
    rw [Nat.zero_add]
    exact (World.cell?_alloc_at _ _ _ _ rfl).trans (zeroL_get j hj), by simp⟩
theorem Counts.set {w : World} {b : Nat} {f g : Nat → Int} (h : Counts w b 0 256 g) : Counts (w.setCells b 0 (nums 256 f)) b 0 256 f := fun j hj => by
  refine ⟨?_, ?_⟩
  · have := World.rangeAt_setCells_same w b 0 (nums 256 f) (by rw [nums_length]; exact h.there) j _ (nums_get 256 f j hj)
    exact this
  · rw [World.frozen?_setCells]
    exact (h j hj).2

theorem loadE_zero {c : Cal} {ts ds ask : List Int} (h : loadE c ts ds ask = 0) : checkF c c.team.length = 0 := by
  unfold loadE at h
  by_cases h0 : checkF c c.team.length = 0
  · exact h0
  · rw [if_pos h0] at h
    exact absurd h h0

theorem wxo_store {op : Oper} {a : Act} {w : World} {K : Act → World → Prop} {Q : Exit → Act → World → Prop} {b : Nat} {f g : Nat → Int} {X : Value} (h : Counts w b 0 256 g) (e : X = lval f) {x y : Operand}
    (ho : op.op = .store 76 x y) (hx : a.eval x = .pointer (some ⟨b, 0, none⟩)) (hy : a.eval y = X) (k : ∀ W2, Hid (W2 = w.setCells b 0 (nums 256 f)) → K (a.put op.dst undef) W2) : op.wp Try.prog a w K Q :=
  wo_store h ho hx (hy.trans e) (k _ (Lib.hid rfl))
theorem wxl_store {ops : Array Oper} {rest : List Oper} {op : Oper} {a : Act} {w : World} {Q : Exit → Act → World → Prop} {b : Nat} {f g : Nat → Int} {X : Value} (h : Counts w b 0 256 g) (e : X = lval f) {x y : Operand}
    (hgd : op.guard = none) (ho : op.op = .store 76 x y) (hx : a.eval x = .pointer (some ⟨b, 0, none⟩)) (hy : a.eval y = X) (k : ∀ W2, Hid (W2 = w.setCells b 0 (nums 256 f)) → wpList Try.prog ops Q rest (a.put op.dst undef) W2) : wpList Try.prog ops Q (op :: rest) a w :=
  wl_store h hgd ho hx (hy.trans e) (k _ (Lib.hid rfl))
theorem wxl_load {ops : Array Oper} {rest : List Oper} {op : Oper} {a : Act} {w : World} {Q : Exit → Act → World → Prop} {b : Nat} {f : Nat → Int} {X : Value} (h : Counts w b 0 256 f) (e : X = lval f) {x : Operand}
    (hgd : op.guard = none) (ho : op.op = .load 76 x) (hx : a.eval x = .pointer (some ⟨b, 0, none⟩)) (k : wpList Try.prog ops Q rest (a.put op.dst X) w) : wpList Try.prog ops Q (op :: rest) a w :=
  wl_load h hgd ho hx (by rw [← e]; exact k)
theorem wxo_load {op : Oper} {a : Act} {w : World} {K : Act → World → Prop} {Q : Exit → Act → World → Prop} {b : Nat} {f : Nat → Int} {X : Value} (h : Counts w b 0 256 f) (e : X = lval f) {x : Operand}
    (ho : op.op = .load 76 x) (hx : a.eval x = .pointer (some ⟨b, 0, none⟩)) (k : K (a.put op.dst X) w) : op.wp Try.prog a w K Q :=
  wo_load h ho hx (by rw [← e]; exact k)
theorem setCells_size (w : World) (b : Nat) : ∀ (o : Nat) (l : List Value), (w.setCells b o l).heap.size = w.heap.size := by
  intro o l
  induction l generalizing w o with
  | nil => rfl
  | cons v r ih => rw [World.setCells, ih]; simp [World.setCell]

set_option maxRecDepth 100000 in
set_option maxHeartbeats 8000000 in
theorem fits_any (c : Cal) (v1 v2 : Value) (ts ds : List Int) (w : World) (h : CalAt w c) (h1 : IntsAt w v1 ts) (h2 : IntsAt w v2 ds) (n1 : NilOk v1) :
    Calls Try.prog 28 #[c.val, v1, v2] w fun e w' => e = .returned (.int .i64 (fitsE c ts ds)) ∧ Below w.heap.size w w' := by
  have H0 := Lib.hid (box w c h)
  have HLD := Lib.hid (fun W (hW : Below w.heap.size w W) => load_any c v1 v2 (.slice none 0 0) ts ds [] W (h.below hW) (h1.below hW) (h2.below hW) (IntsAt.nil W) n1 (fun n c h => by simp only [Value.slice.injEq] at h; omega) (by simp))
  have HFU := Lib.hid (fun f W (hW : Below w.heap.size w W) (h0 : loadE c ts ds [] = 0) => full_any c f W (h.below hW) (ok0_of (loadE_zero h0)).room)
  have HROOM := Lib.hid (fun (h0 : loadE c ts ds [] = 0) => (ok0_of (loadE_zero h0)).room)
  obtain ⟨wa, wc, ta, tc, ra, rc, e1, e2, e3⟩ := h.forms
  have hv : c.val = .agg #[.slice wa c.wins.length wc, .slice ta c.team.length tc, .slice ra c.room.length rc] := by unfold Cal.val; rw [e1, e2, e3]
  rw [hv] at HLD HFU ⊢
  rw [e1, e2, e3] at H0
  have HD := Lib.hid (fun (W : World) (hL : Box w W w.heap.size c) => show W.cell? ⟨w.heap.size, 0, none⟩ = some (.slice wa c.wins.length wc) ∧ W.cell? ⟨w.heap.size, 1, none⟩ = some (.slice ta c.team.length tc) ∧ W.cell? ⟨w.heap.size, 2, none⟩ = some (.slice ra c.room.length rc) from ⟨by rw [← e1]; exact hL.d0, by rw [← e2]; exact hL.d1, by rw [← e3]; exact hL.d2⟩)
  obtain ⟨a1, m1, rfl⟩ := h1.form
  obtain ⟨a2, m2, rfl⟩ := h2.form
  clear h hv e1 e2 e3 h1 h2 n1
  obtain ⟨q, hq⟩ : ∃ q, q = fitsE c ts ds := ⟨_, rfl⟩
  rw [← hq]
  unfold fitsE at hq
  have HQ := Lib.hid hq
  clear hq
  go_enter Try.func28, Try.ntmps28
  go_wp2_with fail
  generalize w.alloc (.cells #[.slice wa c.wins.length wc, .slice ta c.team.length tc, .slice ra c.room.length rc] 25) = W0 at *
  refine (HLD.out _ H0.out.below).mono ?_
  rintro e w1 ⟨f, rfl, hf, hb⟩
  have H1 := Lib.hid (H0.out.later hb)
  have HF := Lib.hid hf
  have hz := store_new w1 76
  clear hb hf
  obtain ⟨X, hX⟩ : ∃ X, X = lval f := ⟨_, rfl⟩
  rw [← hX]
  have HX := Lib.hid hX
  clear hX
  obtain ⟨le, hle⟩ : ∃ n, n = loadE c ts ds [] := ⟨_, rfl⟩
  rw [← hle] at HF HQ HFU HROOM ⊢
  have HLE := Lib.hid hle
  clear hle
  have HNEW := Lib.hid (fun (W2 : World) (e : W2 = (w1.alloc (.cells Try.zeroCells76 76)).setCells w1.heap.size 0 (nums 256 f)) => show Box w W2 w.heap.size c ∧ Counts W2 w1.heap.size 0 256 f from by
    subst e
    have hb : Below w1.heap.size w1 ((w1.alloc (.cells Try.zeroCells76 76)).setCells w1.heap.size 0 (nums 256 f)) := Below.setCells' _ _ ((Below.refl _ _).alloc (Nat.le_refl _) _) (Nat.le_refl _)
    exact ⟨H1.out.later hb, Counts.set hz⟩)
  by_cases h0 : le = 0
  · subst h0
    go_wp2_with (first
      | (refine wxo_store hz HX.out rfl rfl rfl ?_; intro W2 HW2; have hd := HD.out W2 (HNEW.out W2 HW2.out).1; have hc := (HNEW.out W2 HW2.out).2)
      | (refine wxl_store hz HX.out rfl rfl rfl rfl ?_; intro W2 HW2; have hd := HD.out W2 (HNEW.out W2 HW2.out).1; have hc := (HNEW.out W2 HW2.out).2)
      | (refine wxo_load hc HX.out rfl rfl ?_) | (refine wxl_load hc HX.out rfl rfl rfl ?_))
    refine wxo_load hc HX.out rfl rfl ?_
    have HB := Lib.hid (HNEW.out W2 HW2.out).1
    have HC := HFU.out f W2 HB.out.below trivial
    rw [← HX.out] at HC
    have HC' := Lib.hid HC
    clear HC hc hd hz HNEW
    go_wp2_with fail
    refine HC'.out.mono ?_
    rintro e w3 ⟨rfl, hb⟩
    have HB3 := Lib.hid (HB.out.later hb)
    clear hb
    have HQ2 := Lib.hid (show q = if fullB c f = true then 48 else 0 by
      rw [HQ.out, if_neg (by simp), fullB_congr (HROOM.out trivial) (HF.out trivial)])
    cases hfb : fullB c f with
    | true =>
      have hq : q = 48 := by rw [HQ2.out, hfb]; rfl
      subst hq
      go_wp2_with fail
      go_ret
      exact ⟨rfl, HB3.out.below⟩
    | false =>
      have hq : q = 0 := by rw [HQ2.out, hfb]; rfl
      subst hq
      go_wp2_with fail
      go_ret
      exact ⟨rfl, HB3.out.below⟩
  · have hq : q = le := by rw [HQ.out, if_pos h0]
    subst hq
    go_wp2_with (first
      | (refine wxo_store hz HX.out rfl rfl rfl ?_; intro W2 HW2; have hd := HD.out W2 (HNEW.out W2 HW2.out).1; have hc := (HNEW.out W2 HW2.out).2)
      | (refine wxl_store hz HX.out rfl rfl rfl rfl ?_; intro W2 HW2; have hd := HD.out W2 (HNEW.out W2 HW2.out).1; have hc := (HNEW.out W2 HW2.out).2))
    go_ret
    exact ⟨rfl, (HNEW.out W2 HW2.out).1.below⟩
end Go.Proofs.Ytpbahffkhpfakaa


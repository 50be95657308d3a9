import Derived.Test.YtpbahffkhpfakaaWMay
namespace Go.Proofs.Ytpbahffkhpfakaa
open Go.RowKit
set_option linter.unusedSimpArgs false
set_option linter.unusedVariables false

/-! ## The first day of a window that suits -/

def firstD (d : Int) (q : Nat → Bool) : Nat → List Win → Int × Bool
  | _, [] => (0, false)
  | k, x :: l => if max d x.frm < x.til ∧ q k = true then (max d x.frm, true) else firstD d q (k + 1) l

theorem firstD_drop (d : Int) (q : Nat → Bool) : ∀ (k i : Nat) (ws : List Win), k ≤ ws.length → (∀ j (h : j < ws.length), j < k → ¬ (max d ws[j].frm < ws[j].til ∧ q (i + j) = true)) → firstD d q i ws = firstD d q (i + k) (ws.drop k) := by
  intro k
  induction k with
  | zero => intro i ws _ _; rfl
  | succ k ih =>
    intro i ws hk h
    cases ws with
    | nil => simp at hk
    | cons x l =>
      have h0 := h 0 (by simp) (by omega)
      simp only [List.getElem_cons_zero, Nat.add_zero] at h0
      rw [firstD, if_neg h0, ih (i + 1) l (by simpa using hk) (fun j hj hjk => by
        have := h (j + 1) (by simpa using hj) (by omega)
        simp only [List.getElem_cons_succ] at this
        rwa [show i + 1 + j = i + (j + 1) from by omega])]
      simp only [List.drop_succ_cons]
      rw [show i + 1 + k = i + (k + 1) from by omega]
theorem firstD_hit {d : Int} {q : Nat → Bool} {ws : List Win} {k : Nat} (hk : k < ws.length) (h : max d ws[k].frm < ws[k].til ∧ q k = true) (hb : ∀ j (h : j < ws.length), j < k → ¬ (max d ws[j].frm < ws[j].til ∧ q j = true)) : firstD d q 0 ws = (max d ws[k].frm, true) := by
  rw [firstD_drop d q k 0 ws (by omega) (by simpa using hb), List.drop_eq_getElem_cons hk, firstD, Nat.zero_add, if_pos h]
theorem firstD_miss {d : Int} {q : Nat → Bool} {ws : List Win} (hb : ∀ j (h : j < ws.length), ¬ (max d ws[j].frm < ws[j].til ∧ q j = true)) : firstD d q 0 ws = (0, false) := by
  rw [firstD_drop d q ws.length 0 ws (by omega) (fun j hj _ => by simpa using hb j hj), List.drop_length, firstD]

/-- what is asked of a closure that says which window suits -/
def SuitOn (g : Nat) (lb : Array Value) (q : Nat → Bool) (n : Nat) (w : World) : Prop :=
  ∀ (W : World) (k : Nat), k < n → Below w.heap.size w W → Calls Try.prog g (#[.int .i64 k] ++ lb) W fun e w' => e = .returned (.bool (q k)) ∧ Below W.heap.size W w'

set_option maxRecDepth 100000 in
set_option maxHeartbeats 4000000 in
theorem first_any (c : Cal) (d : Int) (g : Nat) (lb : Array Value) (eg : EnterOk g) (q : Nat → Bool) (w : World) (h : CalAt w c) (hs : SuitOn g lb q c.wins.length w) :
    Calls Try.prog 50 #[c.val, .int .i64 d, .func (.func g) #[] lb] w fun e w' => e = .returned (.tuple #[.int .i64 (firstD d q 0 c.wins).1, .bool (firstD d q 0 c.wins).2]) ∧ Below w.heap.size w w' := by
  have H0 := Lib.hid (box w c h)
  have HS := Lib.hid hs
  have eg' : ∀ args w, (callFunc g args).run Try.prog w = .ok (.enter g args) w := eg
  obtain ⟨wa, wc, ta, tc, ra, rc, e1, e2, e3⟩ := h.forms
  have hl := h.wins.len
  clear h hs
  obtain ⟨ws, tm, rm, wv, tv, rv⟩ := c
  simp only at e1 e2 e3 hl
  subst e1 e2 e3
  unfold Cal.val at *
  simp only at *
  obtain ⟨z, hz⟩ : ∃ z, z = firstD d q 0 ws := ⟨_, rfl⟩
  rw [← hz]
  have HZ := Lib.hid hz
  clear hz
  have hl' : (ws.length : Int) ≤ 9223372036854775807 := by omega
  generalize hn : ws.length = n at hl hl' ⊢
  rw [hn] at H0 HS
  have HN := Lib.hid hn
  clear hn
  go_enter Try.func50, Try.ntmps50
  go_wp2_with fail
  generalize w.alloc (.cells #[.slice wa n wc, .slice ta tm.length tc, .slice ra rm.length rc] 25) = W0 at *
  go_loopg [14] n (fun gg s14 wr => ∃ kk : Nat, kk ≤ n ∧ n - kk ≤ gg ∧ s14 = .int .i64 kk ∧ Aside (Below W0.heap.size W0 wr) ∧ Aside (∀ j (hj : j < ws.length), j < kk → ¬ (max d ws[j].frm < ws[j].til ∧ q j = true)))
  case atStart => exact ⟨0, Nat.zero_le _, by omega, rfl, Below.refl _ _, fun j hj h0 => absurd h0 (Nat.not_lt_zero _)⟩
  case round =>
    obtain ⟨kk, hkk, hg, rfl, BW, A⟩ := hrel
    by_cases hlt : kk < n
    · have hltz : (kk : Int) < (n : Int) := by omega
      have hk2 : kk < ws.length := by rw [HN.out]; exact hlt
      obtain ⟨b, off, cap, hs, hbw, r0, r1, r2⟩ := (H0.out.later BW.out).cal.wins.row hk2
      simp only [Value.slice.injEq] at hs
      obtain ⟨rfl, -, rfl⟩ := hs
      have hf := ((H0.out.later BW.out).cal.wins.teams ws[kk] (List.getElem_mem _)).form
      generalize hy : ws[kk] = y at r0 r1 r2 hf
      have B : Aside (ws[kk]'hk2 = y) := hy
      clear hy
      obtain ⟨yf, yt, yv, ys⟩ := y
      simp only at r0 r1 r2 hf
      obtain ⟨ya, yc, rfl⟩ := hf
      have hcall := HS.out (wr.alloc (.cells #[.int .i64 yf, .int .i64 yt, .slice ya ys.length yc] 58)) kk hlt ((H0.out.below.trans (BW.out.mono H0.out.below.size)).alloc (H0.out.below.trans (BW.out.mono H0.out.below.size)).size _)
      have HIT := Lib.hid (fun (h1 : max d yf < yt) (h2 : q kk = true) => show z = (max d yf, true) from by
        rw [HZ.out, firstD_hit hk2 ⟨by rw [B.out]; exact h1, h2⟩ A.out, B.out])
      have NEXT := Lib.hid (fun (h1 : ¬ (max d yf < yt ∧ q kk = true)) => show ∀ j (hj : j < ws.length), j < kk + 1 → ¬ (max d ws[j].frm < ws[j].til ∧ q j = true) from fun j hj hjk => by
        by_cases e : j = kk
        · subst e; rw [B.out]; exact h1
        · exact A.out j hj (by omega))
      have BN := Lib.hid (show Below W0.heap.size W0 (wr.alloc (.cells #[.int .i64 yf, .int .i64 yt, .slice ya ys.length yc] 58)) from BW.out.alloc BW.out.size _)
      generalize q kk = qk at hcall HIT NEXT
      clear A B
      go_wp2_with fail
      · refine hcall.mono ?_
        rintro e w2 ⟨rfl, hb2⟩
        have hb3 := BN.out.trans (hb2.mono BN.out.size)
        have hm : max d yf = yf := by omega
        have hm2 : max d yf < yt := by omega
        have HM := Lib.hid hm
        have HM2 := Lib.hid hm2
        clear hm hm2
        cases qk with
        | true =>
          go_wp2_with fail
          go_ret2
          refine ⟨?_, H0.out.below.trans (hb3.mono H0.out.below.size)⟩
          rw [HIT.out HM2.out trivial, HM.out]
          rfl
        | false =>
          go_wp2_with fail
          go_roundg (n - (kk + 1))
          case measure => omega
          case rel => exact ⟨kk + 1, by omega, by omega, by go_num, hb3, NEXT.out (by simp)⟩
      · go_roundg (n - (kk + 1))
        case measure => omega
        case rel => exact ⟨kk + 1, by omega, by omega, by go_num, BN.out, NEXT.out (by omega)⟩
      · refine hcall.mono ?_
        rintro e w2 ⟨rfl, hb2⟩
        have hb3 := BN.out.trans (hb2.mono BN.out.size)
        have hm : max d yf = d := by omega
        have hm2 : max d yf < yt := by omega
        have HM := Lib.hid hm
        have HM2 := Lib.hid hm2
        clear hm hm2
        cases qk with
        | true =>
          go_wp2_with fail
          go_ret2
          refine ⟨?_, H0.out.below.trans (hb3.mono H0.out.below.size)⟩
          rw [HIT.out HM2.out trivial, HM.out]
          rfl
        | false =>
          go_wp2_with fail
          go_roundg (n - (kk + 1))
          case measure => omega
          case rel => exact ⟨kk + 1, by omega, by omega, by go_num, hb3, NEXT.out (by simp)⟩
      · go_roundg (n - (kk + 1))
        case measure => omega
        case rel => exact ⟨kk + 1, by omega, by omega, by go_num, BN.out, NEXT.out (by omega)⟩
    · have hltz : ¬ (kk : Int) < (n : Int) := by omega
      go_wp2_with fail
      go_ret2
      refine ⟨?_, H0.out.below.trans (BW.out.mono H0.out.below.size)⟩
      rw [HZ.out, firstD_miss fun j hj => A.out j hj (by have := HN.out; omega)]
      rfl
end Go.Proofs.Ytpbahffkhpfakaa

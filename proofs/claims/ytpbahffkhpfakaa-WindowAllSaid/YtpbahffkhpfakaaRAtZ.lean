import Derived.Test.YtpbahffkhpfakaaRCkZ
import Derived.Test.YtpbahffkhpfakaaWNx2Z
namespace Go.Proofs.Ytpbahffkhpfakaa
open Go.RowKit
set_option linter.unusedSimpArgs false
set_option linter.unusedVariables false

/-! ## The reference's at, may, fit -/

/-- how a boxed calendar reads, at the slices' own values -/
structure Shape (c : Cal) (wa : Option Addr) (wc : Nat) (ta : Option Addr) (tc : Nat) (ra : Option Addr) (rc : Nat) : Prop where
  e1 : c.wv = .slice wa c.wins.length wc
  e2 : c.tv = .slice ta c.team.length tc
  e3 : c.rv = .slice ra c.room.length rc
theorem CalAt.shape {w : World} {c : Cal} (h : CalAt w c) : ∃ wa wc ta tc ra rc, Shape c wa wc ta tc ra rc := by
  obtain ⟨wa, wc, ta, tc, ra, rc, e1, e2, e3⟩ := h.forms
  exact ⟨wa, wc, ta, tc, ra, rc, e1, e2, e3⟩
section
variable {c : Cal} {wa : Option Addr} {wc : Nat} {ta : Option Addr} {tc : Nat} {ra : Option Addr} {rc : Nat} {w W : World} {B : Nat}
theorem Shape.val (h : Shape c wa wc ta tc ra rc) : c.val = .agg #[.slice wa c.wins.length wc, .slice ta c.team.length tc, .slice ra c.room.length rc] := by unfold Cal.val; rw [h.e1, h.e2, h.e3]
theorem Shape.box (h : Shape c wa wc ta tc ra rc) (hc : CalAt w c) : Box w (w.alloc (.cells #[.slice wa c.wins.length wc, .slice ta c.team.length tc, .slice ra c.room.length rc] 25)) w.heap.size c := by
  have := Go.Proofs.Ytpbahffkhpfakaa.box w c hc
  rw [h.e1, h.e2, h.e3] at this
  exact this
theorem Shape.cells (h : Shape c wa wc ta tc ra rc) (hL : Box w W B c) : W.cell? ⟨B, 0, none⟩ = some (.slice wa c.wins.length wc) ∧ W.cell? ⟨B, 1, none⟩ = some (.slice ta c.team.length tc) ∧ W.cell? ⟨B, 2, none⟩ = some (.slice ra c.room.length rc) :=
  ⟨by rw [← h.e1]; exact hL.d0, by rw [← h.e2]; exact hL.d1, by rw [← h.e3]; exact hL.d2⟩
theorem Shape.win (h : Shape c wa wc ta tc ra rc) (hL : CalAt W c) {k : Nat} (hk : k < c.wins.length) : ∃ b off, wa = some ⟨b, off, none⟩ ∧ b < W.heap.size ∧ W.cell? ⟨b, off + k * 3, none⟩ = some (.int .i64 c.wins[k].frm) ∧ W.cell? ⟨b, off + k * 3 + 1, none⟩ = some (.int .i64 c.wins[k].til) ∧ W.cell? ⟨b, off + k * 3 + 2, none⟩ = some c.wins[k].tv ∧ IntsAt W c.wins[k].tv c.wins[k].ts := by
  obtain ⟨b, off, cap, hs, hb, h1, h2, h3⟩ := hL.wins.row hk
  rw [h.e1] at hs
  simp only [Value.slice.injEq] at hs
  exact ⟨b, off, hs.1, hb, h1, h2, h3, hL.wins.teams _ (List.getElem_mem hk)⟩
theorem Shape.room (h : Shape c wa wc ta tc ra rc) (hL : CalAt W c) {k : Nat} (hk : k < c.room.length) : ∃ b off, ra = some ⟨b, off, none⟩ ∧ W.cell? ⟨b, off + k, none⟩ = some (.int .i64 c.room[k]) := by
  obtain ⟨b, off, cap, hs, hb, hc⟩ := hL.room.row hk
  rw [h.e3] at hs
  simp only [Value.slice.injEq] at hs
  exact ⟨b, off, hs.1, hc⟩
end
/-- a slice of numbers, cell by cell -/
theorem IntsAt.cellAt {w : World} {a : Option Addr} {n m : Nat} {l : List Int} (h : IntsAt w (.slice a n m) l) {k : Nat} (hk : k < l.length) : ∃ b off, a = some ⟨b, off, none⟩ ∧ b < w.heap.size ∧ w.cell? ⟨b, off + k, none⟩ = some (.int .i64 l[k]) := by
  obtain ⟨b, off, cap, hs, hb, hc⟩ := h.row hk
  simp only [Value.slice.injEq] at hs
  exact ⟨b, off, hs.1, hb, hc⟩

set_option maxRecDepth 100000 in
set_option maxHeartbeats 4000000 in
theorem rat_any (c : Cal) (day : Int) (w : World) (h : CalAt w c) :
    Calls Try.prog 45 #[c.val, .int .i64 day] w fun e w' => e = .returned (.int .i64 (atF c day)) ∧ Below w.heap.size w w' := by
  obtain ⟨wa, wc, ta, tc, ra, rc, hS⟩ := h.shape
  have HS := Lib.hid hS
  have H0 := Lib.hid (hS.box h)
  have hlw := h.wins.len
  rw [hS.val]
  clear h hS
  obtain ⟨q, hq⟩ : ∃ q, q = atF c day := ⟨_, rfl⟩
  rw [← hq]
  have HQ := Lib.hid hq
  clear hq
  have hd := HS.out.cells H0.out
  go_enter Try.func45, Try.ntmps45
  go_wp2_with fail
  clear hd
  generalize w.alloc (.cells #[.slice wa c.wins.length wc, .slice ta c.team.length tc, .slice ra c.room.length rc] 25) = W0 at *
  go_loopg [10] c.wins.length (fun gg s10 wr => ∃ kk : Nat, kk ≤ c.wins.length ∧ c.wins.length - kk ≤ gg ∧ s10 = .int .i64 kk ∧ Aside (Box w wr w.heap.size c) ∧ Aside (∀ j (hj : j < c.wins.length), j < kk → hasB day c.wins[j] = false))
  case atStart => exact ⟨0, Nat.zero_le _, by omega, rfl, H0.out, fun j hj h0 => absurd h0 (Nat.not_lt_zero _)⟩
  case round =>
    obtain ⟨kk, hkk, hg, rfl, L, A⟩ := hrel
    by_cases hlt : kk < c.wins.length
    · have hltz : (kk : Int) < (c.wins.length : Int) := by omega
      obtain ⟨b, off, rfl, hb, c0, c1, c2, hin⟩ := HS.out.win L.out.cal hlt
      obtain ⟨ya, yc, ey⟩ := hin.form
      have HYES := Lib.hid (fun (h : hasB day c.wins[kk] = true) => show q = (kk : Int) by
        rw [HQ.out]
        exact firstI_hit hlt h A.out)
      have HNO := Lib.hid (fun (h : hasB day c.wins[kk] = false) => show ∀ j (hj : j < c.wins.length), j < kk + 1 → hasB day c.wins[j] = false from fun j hj hjk => by
        by_cases e : j = kk
        · subst e; exact h
        · exact A.out j hj (by omega))
      rw [ey] at c2
      clear hin ey A
      generalize c.wins[kk] = y at *
      obtain ⟨yf, yt, yv, ys⟩ := y
      simp only at *
      have LA := Lib.hid (L.out.later (Below.alloc1 wr (.cells #[.int .i64 yf, .int .i64 yt, .slice ya ys.length yc] 58)))
      by_cases hy1 : yf ≤ day
      · by_cases hy2 : day < yt
        · have hq := HYES.out (by unfold hasB; simp; omega)
          subst hq
          clear HYES HNO
          go_wp2_with fail
          go_ret
          exact ⟨rfl, LA.out.below⟩
        · go_wp2_with fail
          go_roundg (c.wins.length - (kk + 1))
          case measure => omega
          case rel => exact ⟨kk + 1, by omega, by omega, by go_num, LA.out, HNO.out (by unfold hasB; simp; omega)⟩
      · go_wp2_with fail
        go_roundg (c.wins.length - (kk + 1))
        case measure => omega
        case rel => exact ⟨kk + 1, by omega, by omega, by go_num, LA.out, HNO.out (by unfold hasB; simp; omega)⟩
    · have hltz : ¬ (kk : Int) < (c.wins.length : Int) := by omega
      have hq : q = -1 := by
        rw [HQ.out]
        exact firstI_miss fun j hj => A.out j hj (by omega)
      subst hq
      go_wp2_with fail
      go_ret
      exact ⟨rfl, L.out.below⟩

set_option maxRecDepth 100000 in
set_option maxHeartbeats 4000000 in
theorem rmay_any (c : Cal) (t day : Int) (w : World) (h : CalAt w c) :
    Calls Try.prog 49 #[c.val, .int .i64 t, .int .i64 day] w fun e w' => e = .returned (.bool (mayF c t day)) ∧ Below w.heap.size w w' := by
  have HAT := Lib.hid (fun W (hW : CalAt W c) => rat_any c day W hW)
  obtain ⟨wa, wc, ta, tc, ra, rc, hS⟩ := h.shape
  have HS := Lib.hid hS
  have H0 := Lib.hid (hS.box h)
  rw [hS.val] at HAT ⊢
  clear h hS
  have hd := HS.out.cells H0.out
  obtain ⟨q, hq⟩ : ∃ q, q = mayF c t day := ⟨_, rfl⟩
  rw [← hq]
  have HQ := Lib.hid hq
  clear hq
  go_enter Try.func49, Try.ntmps49
  go_wp2_with fail
  clear hd
  generalize w.alloc (.cells #[.slice wa c.wins.length wc, .slice ta c.team.length tc, .slice ra c.room.length rc] 25) = W0 at *
  refine (HAT.out _ H0.out.cal).mono ?_
  rintro e w1 ⟨rfl, hb⟩
  have L := Lib.hid (H0.out.later hb)
  have hd := HS.out.cells L.out
  clear hb HAT
  rcases at_spec c t day with ⟨ea, em⟩ | ⟨m, hm, ea, ef, et, em⟩
  · have hq := HQ.out.trans em
    subst hq
    rw [ea]
    clear ea em HQ
    go_wp2_with fail
    go_ret
    exact ⟨rfl, L.out.below⟩
  · have HQ2 := Lib.hid (HQ.out.trans em)
    have hmn : (m : Int) < (c.wins.length : Int) := by omega
    have hm0 : ¬ (m : Int) < 0 := by omega
    have hm1 : (0 : Int) ≤ (m : Int) := by omega
    rw [ea]
    obtain ⟨b, off, rfl, hb, c0, c1, c2, hin⟩ := HS.out.win L.out.cal hm
    obtain ⟨ya, yc, ey⟩ := hin.form
    rw [ey] at c2
    have hin2 := hin
    rw [ey] at hin2
    have htl := hin2.1
    have HIN := Lib.hid hin2
    clear ea em ef et HQ c0 c1 hin hin2 ey
    generalize c.wins[m].ts = ts at *
    rw [← firstI_any (fun y => decide (t = y)) ts] at HQ2
    go_wp2_with fail
    go_loopg [22] ts.length (fun gg s22 wr => ∃ kk : Nat, kk ≤ ts.length ∧ ts.length - kk ≤ gg ∧ s22 = .int .i64 kk ∧ wr = w1 ∧ Aside (∀ j (hj : j < ts.length), j < kk → decide (t = ts[j]) = false))
    case atStart => exact ⟨0, Nat.zero_le _, by omega, rfl, rfl, fun j hj h0 => absurd h0 (Nat.not_lt_zero _)⟩
    case round =>
      obtain ⟨kk, hkk, hg, rfl, rfl, A⟩ := hrel
      by_cases hlt : kk < ts.length
      · have hltz : (kk : Int) < (ts.length : Int) := by omega
        obtain ⟨b3, o3, rfl, _, hc⟩ := HIN.out.cellAt hlt
        have HYES := Lib.hid (fun (h : decide (t = ts[kk]) = true) => show q = true by
          rw [HQ2.out, firstI_hit hlt h A.out]
          simp)
        have HNO := Lib.hid (fun (h : decide (t = ts[kk]) = false) => show ∀ j (hj : j < ts.length), j < kk + 1 → decide (t = ts[j]) = false from fun j hj hjk => by
          by_cases e : j = kk
          · subst e; exact h
          · exact A.out j hj (by omega))
        generalize ts[kk] = y at hc HYES HNO
        by_cases hy : t = y
        · have hq := HYES.out (decide_eq_true hy)
          subst hq
          subst hy
          have hxx : (t == t) = true := by simp
          go_wp2_with fail
          go_ret
          exact ⟨rfl, L.out.below⟩
        · have hxx : (y == t) = false := by simpa using fun e => hy e.symm
          go_wp2_with fail
          go_roundg (ts.length - (kk + 1))
          case measure => omega
          case rel => exact ⟨kk + 1, by omega, by omega, by go_num, rfl, HNO.out (decide_eq_false hy)⟩
      · have hltz : ¬ (kk : Int) < (ts.length : Int) := by omega
        have hq : q = false := by
          rw [HQ2.out, firstI_miss fun j hj => A.out j hj (by omega)]
          rfl
        subst hq
        go_wp2_with fail
        go_ret
        exact ⟨rfl, L.out.below⟩
end Go.Proofs.Ytpbahffkhpfakaa


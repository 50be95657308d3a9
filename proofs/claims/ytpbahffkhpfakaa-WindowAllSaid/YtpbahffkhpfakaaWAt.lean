import Derived.Test.YtpbahffkhpfakaaWChk
namespace Go.Proofs.Ytpbahffkhpfakaa
open Go.RowKit
set_option linter.unusedSimpArgs false
set_option linter.unusedVariables false

/-! ## The window of a day; who may work -/

def hasB (day : Int) (x : Win) : Bool := decide (x.frm ≤ day) && decide (day < x.til)
def atF (c : Cal) (day : Int) : Int := firstI (hasB day) c.wins
def mayF (c : Cal) (team day : Int) : Bool := match c.wins.find? (hasB day) with | some x => x.ts.any (fun y => decide (team = y)) | none => false

theorem firstI_find {α : Type} {p : α → Bool} {l : List α} {k : Nat} (hk : k < l.length) (h : p l[k] = true) (hb : ∀ j (hj : j < l.length), j < k → p l[j] = false) : l.find? p = some l[k] := by
  rw [List.find?_eq_some_iff_getElem]
  exact ⟨h, k, hk, rfl, fun j hj => by simp [hb j (by omega) hj]⟩
theorem firstI_none {α : Type} {p : α → Bool} {l : List α} (h : ∀ j (hj : j < l.length), p l[j] = false) : l.find? p = none := by
  rw [List.find?_eq_none]
  intro x hx
  obtain ⟨i, hi, rfl⟩ := List.getElem_of_mem hx
  rw [h i hi]
  decide

theorem clo_at (D : Nat) (day : Int) (l : List Win) (w : World) (hD : D < w.heap.size) (hc : w.cell? ⟨D, 0, none⟩ = some (.int .i64 day)) :
    PredOn 63 #[.pointer (some ⟨D, 0, none⟩)] Win.val (hasB day) l w := fun W x hx hb => by
  have hc2 : W.cell? ⟨D, 0, none⟩ = some (.int .i64 day) := (hb.cell (p := ⟨D, 0, none⟩) hD).trans hc
  have hDW : D < W.heap.size := Nat.lt_of_lt_of_le hD hb.size
  have hne : D ≠ W.heap.size := by omega
  show Calls Try.prog 63 #[.agg #[.int .i64 x.frm, .int .i64 x.til, x.tv], .pointer (some ⟨D, 0, none⟩)] W fun e w' => e = .returned (.bool (decide (x.frm ≤ day) && decide (day < x.til))) ∧ Below W.heap.size W w'
  have HB := Lib.hid (show Below W.heap.size W (W.alloc (.cells #[.int .i64 x.frm, .int .i64 x.til, x.tv] 58)) from (Below.refl _ _).alloc (Nat.le_refl _) _)
  clear hc hb hx
  obtain ⟨f, t, v, ts⟩ := x
  simp only at HB ⊢
  go_enter Try.func63, Try.ntmps63
  go_wp2
  all_goals
    go_ret
    refine ⟨?_, HB.out⟩
    first | (simp_all; done) | (simp_all; omega)

theorem at_any (c : Cal) (day : Int) (w : World) (h : WinsAt w c.wv c.wins) (ht : ∃ a n m, c.tv = .slice a n m) (hr : ∃ a n m, c.rv = .slice a n m) :
    Calls Try.prog 44 #[c.val, .int .i64 day] w fun e w' => e = .returned (.int .i64 (atF c day)) ∧ Below w.heap.size w w' := by
  obtain ⟨ws, tm, rm, wv, tv, rv⟩ := c
  simp only at h ht hr
  obtain ⟨ta, tn, tc, rfl⟩ := ht
  obtain ⟨ra, rn, rc, rfl⟩ := hr
  unfold Cal.val atF
  simp only
  have hb1 : Below w.heap.size w ((w.alloc (.cells #[wv, .slice ta tn tc, .slice ra rn rc] 25)).alloc (.cells #[.int .i64 day] 3)) := ((Below.refl _ _).alloc (Nat.le_refl _) _).alloc (by simp) _
  have e : w.heap.size + 1 = (w.alloc (.cells #[wv, .slice ta tn tc, .slice ra rn rc] 25)).heap.size := by simp
  have hi := idx_win (hasB day) 63 #[.pointer (some ⟨w.heap.size + 1, 0, none⟩)] (enters_of Try.func63 (by kernel_rfl) rfl) wv ws _ (h.below hb1) (clo_at (w.heap.size + 1) day ws _ (by simp) (by rw [e]; exact World.cell?_alloc_at _ _ _ _ rfl))
  have HI := Lib.hid hi
  have HB := Lib.hid hb1
  have hmf : ∀ (fn : Fn) (first cap : Array Value) (w : World), (Instr.makeFunc fn first cap).run Try.prog w = .ok (.func fn first cap) w := fun _ _ _ _ => rfl
  obtain ⟨wa, wc, rfl⟩ := h.form
  clear h hi hb1 e
  generalize firstI (hasB day) ws = z at *
  generalize ws.length = wn at *
  go_enter Try.func44, Try.ntmps44
  go_wp2_with (go_at_call 62; refine HI.out.mono ?_; rintro e w' ⟨rfl, hb'⟩)
  go_ret
  exact ⟨rfl, HB.out.trans (hb'.mono HB.out.size)⟩

set_option maxHeartbeats 2000000 in
theorem index_int (x : Int) (v : Value) (l : List Int) (w : World) (hv : IntsAt w v l) :
    Calls Try.prog 64 #[v, .int .i64 x] w fun e w' => e = .returned (.int .i64 (firstI (fun y => decide (x = y)) l)) ∧ w = w' := by
  obtain ⟨hl, a, cap, rfl, hc⟩ := hv
  have hc' : ∀ j (h : j < l.length), ∃ b off, a = some ⟨b, off, none⟩ ∧ w.cell? ⟨b, off + j, none⟩ = some (.int .i64 l[j]) := fun j hj => by
    rcases hc with rfl | ⟨b, off, rfl, hb, hcc⟩
    · simp at hj
    · exact ⟨b, off, rfl, hcc j hj⟩
  have HC := Lib.hid hc'
  clear hc hc'
  generalize hn : l.length = n at hl ⊢
  have HN := Lib.hid hn
  clear hn
  generalize hz : firstI (fun y => decide (x = y)) l = z
  have HZ := Lib.hid hz
  clear hz
  go_enter Try.func64, Try.ntmps64
  go_wp2
  go_loopg [5, 8] n (fun gg _ s8 wr => ∃ kk : Nat, kk ≤ n ∧ n - kk ≤ gg ∧ s8 = .int .i64 kk ∧ wr = w ∧ Aside (∀ j (hj : j < l.length), j < kk → decide (x = l[j]) = false))
  case atStart => exact ⟨0, Nat.zero_le _, by omega, rfl, rfl, fun j hj h0 => absurd h0 (Nat.not_lt_zero _)⟩
  case round =>
    obtain ⟨kk, hkk, hg, rfl, rfl, A⟩ := hrel
    by_cases hlt : kk < n
    · have hltz : (kk : Int) < (n : Int) := by omega
      have hk2 : kk < l.length := by rw [HN.out]; exact hlt
      obtain ⟨b, off, rfl, hcell⟩ := HC.out kk hk2
      generalize hy : l[kk] = y at hcell
      have B : Aside (l[kk]'hk2 = y) := hy
      clear hy
      by_cases hq : x = y
      · subst hq
        have hxx : (x == x) = true := by simp
        go_wp2
        go_ret
        refine ⟨?_, rfl⟩
        rw [← HZ.out, firstI_hit hk2 (by rw [B.out]; simp) A.out]
        rfl
      · have hxx : (x == y) = false := by simpa using hq
        go_wp2
        go_roundg (n - (kk + 1))
        case measure => omega
        case rel =>
          refine ⟨kk + 1, by omega, by omega, by go_num, rfl, (show Aside _ from fun j hj hjk => ?_)⟩
          by_cases e : j = kk
          · subst e
            rw [B.out]; exact decide_eq_false hq
          · exact A.out j hj (by omega)
    · have hltz : ¬ (kk : Int) < (n : Int) := by omega
      have hkn : kk = n := by omega
      subst hkn
      go_wp2
      go_ret
      refine ⟨?_, rfl⟩
      rw [← HZ.out, firstI_miss fun j hj => A.out j hj (by have := HN.out; omega)]
      rfl

theorem contains_int (x : Int) (v : Value) (l : List Int) (w : World) (hv : IntsAt w v l) :
    Calls Try.prog 52 #[v, .int .i64 x] w fun e w' => e = .returned (.bool (l.any fun y => decide (x = y))) ∧ w = w' := by
  have h := Lib.hid (index_int x v l w hv)
  rw [← firstI_any (fun y => decide (x = y)) l]
  obtain ⟨a, cap, rfl⟩ := hv.form
  clear hv
  generalize firstI (fun y => decide (x = y)) l = z at *
  generalize l.length = n at h ⊢
  go_enter Try.func52, Try.ntmps52
  go_wp2_with (go_at_call 64; refine h.out.mono ?_; rintro e w' ⟨rfl, rfl⟩)
  go_ret
  exact ⟨rfl, rfl⟩
end Go.Proofs.Ytpbahffkhpfakaa

import Derived.Test.YtpbahffkhpfakaaWEach
namespace Go.Proofs.Ytpbahffkhpfakaa
open Go.RowKit
set_option linter.unusedSimpArgs false
set_option linter.unusedVariables false

/-! ## Lists in their order -/

def pairB {α : Type} (r : α → α → Bool) : List α → Bool
  | a :: b :: l => r a b && pairB r (b :: l)
  | _ => true
theorem pairB_iff {α : Type} (r : α → α → Bool) : ∀ (l : List α), pairB r l = true ↔ ∀ j (h : j + 1 < l.length), r l[j] l[j + 1] = true
  | [] => by simp [pairB]
  | [a] => by simp [pairB]
  | a :: b :: l => by
    rw [pairB, Bool.and_eq_true, pairB_iff r (b :: l)]
    constructor
    · rintro ⟨h1, h2⟩ j hj
      cases j with
      | zero => exact h1
      | succ j => exact h2 j (by simpa using hj)
    · intro h
      exact ⟨h 0 (by simp), fun j hj => h (j + 1) (by simpa using hj)⟩
theorem pairB_no {α : Type} {r : α → α → Bool} {l : List α} {j : Nat} (h : j + 1 < l.length) (hr : r l[j] l[j + 1] = false) : pairB r l = false := by
  cases hp : pairB r l with
  | false => rfl
  | true =>
    rw [pairB_iff] at hp
    rw [hp j h] at hr
    cases hr

def ascB (l : List Int) : Bool := pairB (fun a b => decide (a < b)) l
def apartB (l : List Win) : Bool := pairB (fun a b => decide (a.til ≤ b.frm)) l

theorem i64_pred (kk : Nat) (h : 1 ≤ kk) (h2 : (kk : Int) ≤ 9223372036854775807) : IntKind.i64.wrap ((kk : Int) - 1) = ((kk - 1 : Nat) : Int) := by
  rw [show (kk : Int) - 1 = ((kk - 1 : Nat) : Int) from by omega]
  exact IntWalk.i64_in _ (by omega)

set_option maxRecDepth 100000 in
set_option maxHeartbeats 4000000 in
theorem asc_any (v : Value) (l : List Int) (w : World) (hv : IntsAt w v l) :
    Calls Try.prog 42 #[v] w fun e w' => e = .returned (.bool (ascB l)) ∧ Below w.heap.size w w' := by
  obtain ⟨hl, a, cap, rfl, hc⟩ := hv
  have hc' : ∀ W, Below w.heap.size w W → ∀ j (h : j < l.length), ∃ b off, a = some ⟨b, off, none⟩ ∧ W.cell? ⟨b, off + j, none⟩ = some (.int .i64 l[j]) ∧ ∀ i (h : i < l.length), W.cell? ⟨b, off + i, none⟩ = some (.int .i64 l[i]) := fun W hW j hj => by
    rcases hc with rfl | ⟨b, off, rfl, hb, hcc⟩
    · simp at hj
    · exact ⟨b, off, rfl, (hW.cell (p := ⟨b, off + j, none⟩) hb).trans (hcc j hj), fun i hi => (hW.cell (p := ⟨b, off + i, none⟩) hb).trans (hcc i hi)⟩
  have HC := Lib.hid hc'
  clear hc hc'
  generalize hn : l.length = n at hl ⊢
  have HN := Lib.hid hn
  clear hn
  go_enter Try.func42, Try.ntmps42
  go_wp2
  go_loopg [3] n (fun gg s3 wr => ∃ kk : Nat, 1 ≤ kk ∧ (kk ≤ n ∨ kk = 1) ∧ n - kk ≤ gg ∧ s3 = .int .i64 kk ∧ Aside (Below w.heap.size w wr) ∧ Aside (∀ j (hj : j + 1 < l.length), j + 1 < kk → l[j] < l[j + 1]))
  case atStart => exact ⟨1, Nat.le_refl _, .inr rfl, by omega, rfl, Below.refl _ w, fun j hj h0 => by omega⟩
  case round =>
    obtain ⟨kk, hk1, hkk, hg, rfl, BW, A⟩ := hrel
    by_cases hlt : kk < n
    · have hltz : (kk : Int) < (n : Int) := by omega
      have hk2 : kk < l.length := by rw [HN.out]; exact hlt
      obtain ⟨b, off, rfl, hcell, hall⟩ := HC.out wr BW.out kk hk2
      have hcell0 := hall (kk - 1) (by omega)
      clear hall
      have hpr := i64_pred kk hk1 (by omega)
      have hlt2 : ((kk - 1 : Nat) : Int) < (n : Int) := by omega
      generalize hy : l[kk] = y at hcell
      generalize hx : l[kk - 1] = x at hcell0
      have B : Aside (l[kk]'hk2 = y) := hy
      have B2 : Aside (l[kk - 1]'(by omega) = x) := hx
      clear hy hx
      go_wp2_with fail
      go_quiet (fail)
      clear hpr
      by_cases hxy : y ≤ x
      · go_wp2_with fail
        go_ret
        refine ⟨?_, below_drewN BW.out _⟩
        have : ascB l = false := pairB_no (j := kk - 1) (by have := HN.out; omega) (by
          have e : l[kk - 1 + 1]'(by omega) = y := by rw [← B.out]; congr 1; omega
          rw [e, B2.out]
          exact decide_eq_false (by omega))
        rw [this]
        rfl
      · go_wp2_with fail
        go_roundg (n - (kk + 1))
        case measure => omega
        case rel =>
          refine ⟨kk + 1, by omega, .inl (by omega), by omega, by go_num, below_drewN BW.out _, (show Aside _ from fun j hj hjk => ?_)⟩
          by_cases e : j + 1 = kk
          · have e2 : l[j + 1]'hj = y := by rw [← B.out]; congr 1
            have e3 : l[j]'(by omega) = x := by rw [← B2.out]; congr 1; omega
            rw [e2, e3]
            omega
          · exact A.out j hj (by omega)
    · have hltz : ¬ (kk : Int) < (n : Int) := by omega
      go_wp2
      go_ret
      refine ⟨?_, BW.out⟩
      have : ascB l = true := (pairB_iff _ _).2 fun j hj => by
        have := A.out j hj (by have := HN.out; omega)
        simpa using this
      rw [this]
      rfl
set_option maxRecDepth 100000 in
set_option maxHeartbeats 4000000 in
theorem apart_any (v : Value) (l : List Win) (w : World) (hv : WinsAt w v l) :
    Calls Try.prog 40 #[v] w fun e w' => e = .returned (.bool (apartB l)) ∧ Below w.heap.size w w' := by
  obtain ⟨hl, ⟨a, cap, rfl, hc⟩, ht⟩ := hv
  have hc' : ∀ W, Below w.heap.size w W → ∀ j (h : j < l.length), ∃ b off, a = some ⟨b, off, none⟩ ∧ W.cell? ⟨b, off + j * 3, none⟩ = some (.int .i64 l[j].frm) ∧ ∀ i (h : i < l.length), W.cell? ⟨b, off + i * 3 + 1, none⟩ = some (.int .i64 l[i].til) := fun W hW j hj => by
    rcases hc with rfl | ⟨b, off, rfl, hb, hcc⟩
    · simp at hj
    · exact ⟨b, off, rfl, (hW.cell (p := ⟨b, off + j * 3, none⟩) hb).trans (hcc j hj).1, fun i hi => (hW.cell (p := ⟨b, off + i * 3 + 1, none⟩) hb).trans (hcc i hi).2.1⟩
  have HC := Lib.hid hc'
  clear hc hc' ht
  generalize hn : l.length = n at hl ⊢
  have HN := Lib.hid hn
  clear hn
  go_enter Try.func40, Try.ntmps40
  go_wp2
  go_loopg [3] n (fun gg s3 wr => ∃ kk : Nat, 1 ≤ kk ∧ (kk ≤ n ∨ kk = 1) ∧ n - kk ≤ gg ∧ s3 = .int .i64 kk ∧ Aside (Below w.heap.size w wr) ∧ Aside (∀ j (hj : j + 1 < l.length), j + 1 < kk → l[j].til ≤ l[j + 1].frm))
  case atStart => exact ⟨1, Nat.le_refl _, .inr rfl, by omega, rfl, Below.refl _ w, fun j hj h0 => by omega⟩
  case round =>
    obtain ⟨kk, hk1, hkk, hg, rfl, BW, A⟩ := hrel
    by_cases hlt : kk < n
    · have hltz : (kk : Int) < (n : Int) := by omega
      have hk2 : kk < l.length := by rw [HN.out]; exact hlt
      obtain ⟨b, off, rfl, hcell, hall⟩ := HC.out wr BW.out kk hk2
      have hcell0 := hall (kk - 1) (by omega)
      clear hall
      have hpr := i64_pred kk hk1 (by omega)
      have hlt2 : ((kk - 1 : Nat) : Int) < (n : Int) := by omega
      generalize hy : l[kk].frm = y at hcell
      generalize hx : l[kk - 1].til = x at hcell0
      have B : Aside ((l[kk]'hk2).frm = y) := hy
      have B2 : Aside ((l[kk - 1]'(by omega)).til = x) := hx
      clear hy hx
      go_wp2_with fail
      go_quiet (fail)
      clear hpr
      by_cases hxy : y < x
      · go_wp2_with fail
        go_ret
        refine ⟨?_, below_drewN BW.out _⟩
        have : apartB l = false := pairB_no (j := kk - 1) (by have := HN.out; omega) (by
          have e : (l[kk - 1 + 1]'(by omega)).frm = y := by rw [← B.out]; congr 2; omega
          rw [e, B2.out]
          exact decide_eq_false (by omega))
        rw [this]
        rfl
      · go_wp2_with fail
        go_roundg (n - (kk + 1))
        case measure => omega
        case rel =>
          refine ⟨kk + 1, by omega, .inl (by omega), by omega, by go_num, below_drewN BW.out _, (show Aside _ from fun j hj hjk => ?_)⟩
          by_cases e : j + 1 = kk
          · have e2 : (l[j + 1]'hj).frm = y := by rw [← B.out]; congr 2
            have e3 : (l[j]'(by omega)).til = x := by rw [← B2.out]; congr 2; omega
            rw [e2, e3]
            omega
          · exact A.out j hj (by omega)
    · have hltz : ¬ (kk : Int) < (n : Int) := by omega
      go_wp2
      go_ret
      refine ⟨?_, BW.out⟩
      have : apartB l = true := (pairB_iff _ _).2 fun j hj => by
        have := A.out j hj (by have := HN.out; omega)
        simpa using this
      rw [this]
      rfl
end Go.Proofs.Ytpbahffkhpfakaa

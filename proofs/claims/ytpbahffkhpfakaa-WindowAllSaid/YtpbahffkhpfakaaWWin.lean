import Derived.Test.YtpbahffkhpfakaaWInt
import Derived.Laws.Cells
import Derived.Lib.SliceRun
namespace Go.Proofs.Ytpbahffkhpfakaa
open Go.RowKit
set_option linter.unusedSimpArgs false
set_option linter.unusedVariables false

/-! ## Windows: a day, a day, and the value of a slice of teams -/

structure Win where
  frm : Int
  til : Int
  tv : Value
  ts : List Int

def Win.cells (x : Win) : List Value := [.int .i64 x.frm, .int .i64 x.til, x.tv]
def Win.val (x : Win) : Value := .agg #[.int .i64 x.frm, .int .i64 x.til, x.tv]

structure WinsAt (w : World) (v : Value) (ws : List Win) : Prop where
  len : ws.length ≤ 9223372036854775807
  rows : ∃ a cap, v = .slice a ws.length cap ∧ (ws = [] ∨ ∃ b off, a = some ⟨b, off, none⟩ ∧ b < w.heap.size ∧ ∀ j (h : j < ws.length), w.cell? ⟨b, off + j * 3, none⟩ = some (.int .i64 ws[j].frm) ∧ w.cell? ⟨b, off + j * 3 + 1, none⟩ = some (.int .i64 ws[j].til) ∧ w.cell? ⟨b, off + j * 3 + 2, none⟩ = some ws[j].tv)
  teams : ∀ x ∈ ws, IntsAt w x.tv x.ts
theorem WinsAt.below {w w' : World} {v : Value} {ws : List Win} (h : WinsAt w v ws) (hb : Below w.heap.size w w') : WinsAt w' v ws := by
  obtain ⟨hl, ⟨a, cap, rfl, h⟩, ht⟩ := h
  refine ⟨hl, ⟨a, cap, rfl, ?_⟩, fun x hx => (ht x hx).below hb⟩
  rcases h with h | ⟨b, off, rfl, hbs, hc⟩
  · exact .inl h
  · exact .inr ⟨b, off, rfl, Nat.lt_of_lt_of_le hbs hb.size, fun j hj => ⟨(hb.cell (p := ⟨b, off + j * 3, none⟩) hbs).trans (hc j hj).1, (hb.cell (p := ⟨b, off + j * 3 + 1, none⟩) hbs).trans (hc j hj).2.1, (hb.cell (p := ⟨b, off + j * 3 + 2, none⟩) hbs).trans (hc j hj).2.2⟩⟩
theorem WinsAt.form {w : World} {v : Value} {l : List Win} (h : WinsAt w v l) : ∃ a cap, v = .slice a l.length cap := by
  obtain ⟨a, cap, rfl, _⟩ := h.rows
  exact ⟨a, cap, rfl⟩

set_option maxHeartbeats 2000000 in
theorem idx_win (p : Win → Bool) (g : Nat) (lb : Array Value) (eg : EnterOk g) (v : Value) (l : List Win) (w : World) (hv : WinsAt w v l) (hp : PredOn g lb Win.val p l w) :
    Calls Try.prog 62 #[v, .func (.func g) #[] lb] w fun e w' => e = .returned (.int .i64 (firstI p l)) ∧ Below w.heap.size w w' := by
  obtain ⟨hl, ⟨a, cap, rfl, hc⟩, ht⟩ := hv
  have hc' : ∀ W, Below w.heap.size w W → ∀ j (h : j < l.length), ∃ b off, a = some ⟨b, off, none⟩ ∧ W.cell? ⟨b, off + j * 3, none⟩ = some (.int .i64 l[j].frm) ∧ W.cell? ⟨b, off + j * 3 + 1, none⟩ = some (.int .i64 l[j].til) ∧ W.cell? ⟨b, off + j * 3 + 2, none⟩ = some l[j].tv := fun W hW j hj => by
    rcases hc with rfl | ⟨b, off, rfl, hb, hcc⟩
    · simp at hj
    · exact ⟨b, off, rfl, (hW.cell (p := ⟨b, off + j * 3, none⟩) hb).trans (hcc j hj).1, (hW.cell (p := ⟨b, off + j * 3 + 1, none⟩) hb).trans (hcc j hj).2.1, (hW.cell (p := ⟨b, off + j * 3 + 2, none⟩) hb).trans (hcc j hj).2.2⟩
  have HC := Lib.hid hc'
  have HP := Lib.hid hp
  have eg' : ∀ args w, (callFunc g args).run Try.prog w = .ok (.enter g args) w := eg
  clear hc hc' hp ht
  generalize hn : l.length = n at hl ⊢
  have HN := Lib.hid hn
  clear hn
  go_enter Try.func62, Try.ntmps62
  go_wp2
  go_loopg [5, 8] n (fun gg _ s8 wr => ∃ kk : Nat, kk ≤ n ∧ n - kk ≤ gg ∧ s8 = .int .i64 kk ∧ Aside (Below w.heap.size w wr) ∧ Aside (∀ j (hj : j < l.length), j < kk → p l[j] = false))
  case atStart => exact ⟨0, Nat.zero_le _, by omega, rfl, Below.refl _ w, fun j hj h0 => absurd h0 (Nat.not_lt_zero _)⟩
  case round =>
    obtain ⟨kk, hkk, hg, rfl, BW, A⟩ := hrel
    by_cases hlt : kk < n
    · have hltz : (kk : Int) < (n : Int) := by omega
      have hk2 : kk < l.length := by rw [HN.out]; exact hlt
      obtain ⟨b, off, rfl, hcell⟩ := HC.out wr BW.out kk hk2
      have hcall := HP.out wr l[kk] (List.getElem_mem _) BW.out
      generalize hy : l[kk] = y at hcell hcall
      obtain ⟨hc0, hc1, hc2⟩ := hcell
      have hcall2 : Calls Try.prog g (#[.agg #[.int .i64 y.frm, .int .i64 y.til, y.tv]] ++ lb) wr fun e w' => e = .returned (.bool (p y)) ∧ Below wr.heap.size wr w' := hcall
      clear hcall
      have B : Aside (l[kk]'hk2 = y) := hy
      clear hy
      cases hq : p y with
      | true =>
        rw [hq] at hcall2
        go_wp2_with (go_at_fn g; refine hcall2.mono ?_; rintro e w' ⟨rfl, hb'⟩)
        go_ret
        refine ⟨?_, BW.out.trans (hb'.mono BW.out.size)⟩
        rw [firstI_hit hk2 (by rw [B.out]; exact hq) A.out]
        rfl
      | false =>
        rw [hq] at hcall2
        go_wp2_with (go_at_fn g; refine hcall2.mono ?_; rintro e w' ⟨rfl, hb'⟩)
        go_roundg (n - (kk + 1))
        case measure => omega
        case rel =>
          refine ⟨kk + 1, by omega, by omega, by go_num, BW.out.trans (hb'.mono BW.out.size), (show Aside _ from fun j hj hjk => ?_)⟩
          by_cases e : j = kk
          · subst e
            rw [B.out]; exact hq
          · exact A.out j hj (by omega)
    · have hltz : ¬ (kk : Int) < (n : Int) := by omega
      have hkn : kk = n := by omega
      subst hkn
      go_wp2
      go_ret
      refine ⟨?_, BW.out⟩
      rw [firstI_miss fun j hj => A.out j hj (by have := HN.out; omega)]
      rfl

theorem cf_win (p : Win → Bool) (g : Nat) (lb : Array Value) (eg : EnterOk g) (v : Value) (l : List Win) (w : World) (hv : WinsAt w v l) (hp : PredOn g lb Win.val p l w) :
    Calls Try.prog 60 #[v, .func (.func g) #[] lb] w fun e w' => e = .returned (.bool (l.any p)) ∧ Below w.heap.size w w' := by
  have h := Lib.hid (idx_win p g lb eg v l w hv hp)
  rw [← firstI_any p l]
  obtain ⟨a, cap, rfl⟩ := hv.form
  clear hv hp
  generalize firstI p l = z at *
  generalize l.length = n at h ⊢
  go_enter Try.func60, Try.ntmps60
  go_wp2_with (go_at_call 62; refine h.out.mono ?_; rintro e w' ⟨rfl, hb'⟩)
  go_ret
  exact ⟨rfl, hb'⟩
end Go.Proofs.Ytpbahffkhpfakaa

import Derived.Test.YtpbahffkhpfakaaWFitZ
import Derived.Deep.QuietTactic
import Derived.BigQuiet
namespace Go.Proofs.Ytpbahffkhpfakaa
open Go.RowKit
set_option linter.unusedSimpArgs false
set_option linter.unusedVariables false

/-! ## Which window has room for one change more -/

def suitB (c : Cal) (f : Nat → Int) (t k : Nat) : Bool :=
  ((c.wins[k]?).map fun x => x.ts.any fun y => decide ((t : Int) = y)).getD false && decide (f (k * 8 + t) < (c.room[t]?).getD 0)
theorem Below.drewN0 {B : Nat} (w : World) (n : Nat) : Below B w (w.drewN n) := ⟨rfl, rfl, rfl, Nat.le_refl _, fun _ _ => rfl⟩

set_option maxRecDepth 100000 in
set_option maxHeartbeats 4000000 in
theorem suit_any (c : Cal) (f : Nat → Int) (t B1 B2 B3 : Nat) (w0 w : World) (hB : Box w0 w B1 c) (hc2 : w.cell? ⟨B2, 0, none⟩ = some (.int .i64 t)) (hB2 : B2 < w.heap.size) (hc3 : Counts w B3 0 256 f) (hB3 : B3 < w.heap.size) (ht : t < c.room.length) (h8 : c.room.length ≤ 8) (h32 : c.wins.length ≤ 32) :
    SuitOn 55 #[.pointer (some ⟨B1, 0, none⟩), .pointer (some ⟨B2, 0, none⟩), .pointer (some ⟨B3, 0, none⟩)] (suitB c f t) c.wins.length w := fun W k hk hbW => by
  have h1 := hB.later hbW
  have H1 := Lib.hid h1
  have x2 : W.cell? ⟨B2, 0, none⟩ = some (.int .i64 t) := (hbW.cell (p := ⟨B2, 0, none⟩) hB2).trans hc2
  have x3 := (hc3.below hbW hB3 (k * 8 + t) (by omega)).1
  rw [Nat.zero_add] at x3
  obtain ⟨b, off, cap, hs, hbw, r0, r1, r2⟩ := h1.cal.wins.row hk
  obtain ⟨b4, off4, cap4, hs4, hbw4, r4⟩ := h1.cal.room.row ht
  have x0 := h1.d0
  have x5 := h1.d2
  rw [hs] at x0
  rw [hs4] at x5
  have hin := h1.cal.wins.teams c.wins[k] (List.getElem_mem hk)
  have HT := Lib.hid (fun n => (contains_int t c.wins[k].tv c.wins[k].ts (W.drewN n) (hin.below (Below.drewN0 W n))).mono fun e w' hh => (show _ ∧ w' = W.drewN n from ⟨hh.1, hh.2.symm⟩))
  obtain ⟨q, hq⟩ : ∃ q, q = suitB c f t k := ⟨_, rfl⟩
  rw [← hq]
  unfold suitB at hq
  rw [List.getElem?_eq_getElem hk, List.getElem?_eq_getElem ht] at hq
  simp only [Option.map_some, Option.getD_some] at hq
  have HQ := Lib.hid hq
  clear hq h1 hs hs4 hbw hbw4 r0 r1 hc2 hc3
  have hf := hin.form
  clear hin
  generalize c.wins[k].tv = tv at *
  obtain ⟨ya, yc, rfl⟩ := hf
  generalize (c.wins[k].ts.any fun y => decide ((t : Int) = y)) = qa at *
  generalize c.room[t] = rm at *
  generalize f (k * 8 + t) = x at *
  generalize c.wins[k].ts.length = yn at *
  have hki : (k : Int) < 32 := by omega
  have hk0 : (0 : Int) ≤ (k : Int) := by omega
  have hkn : (k : Int) < (c.wins.length : Int) := by omega
  have hti : (t : Int) < 8 := by omega
  have ht0 : (0 : Int) ≤ (t : Int) := by omega
  have htn : (t : Int) < (c.room.length : Int) := by omega
  generalize c.wins.length = wn at *
  generalize c.room.length = rn at *
  clear hB hbW
  show Calls Try.prog 55 #[.int .i64 k, .pointer (some ⟨B1, 0, none⟩), .pointer (some ⟨B2, 0, none⟩), .pointer (some ⟨B3, 0, none⟩)] W _
  cases qa with
  | true =>
    go_enter Try.func55, Try.ntmps55
    go_wp2_with fail
    go_quiet ((first | (go_at_call 52; exact Calls.quiet_of_same (HT.out _))))
    go_wp2_with fail
    go_ret
    exact ⟨by rw [HQ.out]; simp, Below.drewN0 _ _⟩
  | false =>
    go_enter Try.func55, Try.ntmps55
    go_wp2_with fail
    go_quiet ((first | (go_at_call 52; exact Calls.quiet_of_same (HT.out _))))
    go_wp2_with fail
    go_ret
    exact ⟨by rw [HQ.out]; simp, Below.drewN0 _ _⟩
end Go.Proofs.Ytpbahffkhpfakaa


import Derived.Test.YtpbahffkhpfakaaDice
import Derived.Test.YtpbahffkhpfakaaWRegZ
namespace Go.Proofs.Ytpbahffkhpfakaa
open Go.RowKit
set_option linter.unusedSimpArgs false
set_option linter.unusedVariables false

/-! ## One of some numbers -/

set_option maxRecDepth 100000 in
set_option maxHeartbeats 4000000 in
theorem of_any (p : Nat) (v : Value) (l : List Int) (w : World) (h : DiceAt w p) (h0 : 0 < l.length) (h9 : l.length < 1000) (hv : ∀ W, Dk p w W → IntsAt W v l) :
    Calls Try.prog 32 #[.pointer (some ⟨p, 0, none⟩), v] w fun e w' => (∃ x ∈ l, e = .returned (.int .i64 x)) ∧ Dk p w w' := by
  have HV := Lib.hid hv
  have HN := Lib.hid (next_any p (l.length : Int) w h (by omega) (by omega))
  obtain ⟨a, m, rfl⟩ := (hv w (Dk.refl h)).form
  clear hv
  go_enter Try.func32, Try.ntmps32
  go_wp2_with fail
  refine HN.out.mono ?_
  rintro e w1 ⟨⟨r, hr, rfl⟩, hk⟩
  have hrl : r < l.length := by omega
  obtain ⟨b, off, cap, hs, hb, hc⟩ := (HV.out w1 hk).row hrl
  simp only [Value.slice.injEq] at hs
  obtain ⟨rfl, -, rfl⟩ := hs
  have hm := List.getElem_mem hrl
  have HK := Lib.hid hk
  generalize l[r] = x at hc hm
  have HM := Lib.hid hm
  have hr0 : (0 : Int) ≤ (r : Int) := by omega
  clear hk hm HN HV
  go_wp2_with fail
  go_ret
  exact ⟨⟨x, HM.out, rfl⟩, HK.out⟩
end Go.Proofs.Ytpbahffkhpfakaa


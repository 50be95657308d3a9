import Derived.Test.YtiognfhjmcbbpaaDoorCCod
import Derived.Deep.LoopGhost
import Derived.Deep.MidRow
namespace Go.Proofs.YtiognfhjmcbbpaaDoor
open Go.RowKit
set_option linter.unusedSimpArgs false
set_option linter.unusedVariables false

theorem wl_loadSA {ops : Array Oper} {rest : List Oper} {op : Oper} {a : Act} {w : World} {Q : Exit → Act → World → Prop} {X : Value} (h : SuAt w) (e : X = .agg suCells.toArray) {x : Operand}
    (hgd : op.guard = none) (ho : op.op = .load 70 x) (hx : a.eval x = .pointer (some ⟨1, 0, none⟩)) (k : wpList Tryd.prog ops Q rest (a.put op.dst X) w) : wpList Tryd.prog ops Q (op :: rest) a w := by
  subst e
  exact wpList_load_mid hgd _ x ho _ 0 hx suCells _ h.range undSA rfl (by rw [suCells_len]; exact infoSA) k
/-- the first suite from place i on that has a name -/
def codeFrom (s : ByteArray) (i : Nat) : Nat := if h : i < 17 then (if 1 ≤ i ∧ (suRow i).nm = s then i else codeFrom s (i + 1)) else 0
termination_by 17 - i
set_option maxRecDepth 100000 in
set_option maxHeartbeats 2000000 in
theorem code_any (s : ByteArray) (w : World) (he : SuAt w) :
    Calls Tryd.prog 25 #[.string s] w fun e w' => e = .returned (.int .i64 (codeFrom s 0 : Nat)) ∧ Below w.heap.size w w' := by
  obtain ⟨X, hX⟩ : ∃ X, X = Value.agg suCells.toArray := ⟨_, rfl⟩
  have HX := Lib.hid hX
  have HE := Lib.hid he
  clear hX he
  go_enter Tryd.func25, Tryd.ntmps25
  go_wp2_with (refine wl_loadSA HE.out HX.out rfl rfl rfl ?_)
  go_loopg [6] 17 (fun gg s6 wr => ∃ i : Nat, i ≤ 17 ∧ 17 - i ≤ gg ∧ s6 = .int .i64 i ∧ Aside (Below w.heap.size w wr) ∧ Aside (codeFrom s i = codeFrom s 0))
  case atStart => exact ⟨0, by omega, by omega, rfl, Below.refl _ _, rfl⟩
  case round =>
    obtain ⟨i, hi, hg, rfl, BW, A⟩ := hrel
    by_cases hlt : i < 17
    · have hltz : (i : Int) < 17 := by omega
      have hst : codeFrom s i = if 1 ≤ i ∧ (suRow i).nm = s then i else codeFrom s (i + 1) := by
        conv => lhs; unfold codeFrom
        rw [dif_pos hlt]
      have HST := Lib.hid hst
      have hidx : ∀ W, (Instr.index 70 X (.int .i64 (i : Int))).run Tryd.prog W = .ok (.agg #[.string (suRow i).nm, .int .i64 (suRow i).a, .int .i64 (suRow i).b, .int .i64 (suRow i).c, .int .i64 (suRow i).d, .int .i64 (suRow i).e, .int .i64 (suRow i).f, .int .i64 (suRow i).g, .int .i64 (suRow i).h, .int .i64 (suRow i).l, .int .i64 (suRow i).m]) W := fun W => by
        rw [HX.out]; exact run_index_su i hlt W
      have BA := Lib.hid (BW.out.trans ((Below.alloc1' wr (.cells #[.string (suRow i).nm, .int .i64 (suRow i).a, .int .i64 (suRow i).b, .int .i64 (suRow i).c, .int .i64 (suRow i).d, .int .i64 (suRow i).e, .int .i64 (suRow i).f, .int .i64 (suRow i).g, .int .i64 (suRow i).h, .int .i64 (suRow i).l, .int .i64 (suRow i).m] 69)).mono BW.out.size))
      generalize suRow i = r at *
      obtain ⟨nm, v0, v1, v2, v3, v4, v5, v6, v7, v8, v9⟩ := r
      simp only [] at hidx HST BA
      clear hst
      by_cases h1 : 1 ≤ i
      · have h1z : 0 < (i : Int) := by omega
        by_cases hns : nm = s
        · have HR := Lib.hid (show codeFrom s 0 = i by rw [← A.out, HST.out, if_pos ⟨h1, hns⟩])
          subst hns
          go_wp2_with fail
          go_ret
          exact ⟨by rw [HR.out]; rfl, BA.out⟩
        · have HR := Lib.hid (show codeFrom s (i + 1) = codeFrom s 0 by rw [← A.out, HST.out, if_neg (fun h => hns h.2)])
          have hne : (nm.toList == s.toList) = false := by rw [← beq_toListBytes]; exact bytes_ne hns
          go_wp2_with fail
          go_roundg (17 - (i + 1))
          case measure => omega
          case rel => exact ⟨i + 1, by omega, by omega, by go_num, BA.out, HR.out⟩
      · have h1z : ¬ 0 < (i : Int) := by omega
        have HR := Lib.hid (show codeFrom s (i + 1) = codeFrom s 0 by rw [← A.out, HST.out, if_neg (fun h => h1 h.1)])
        go_wp2_with fail
        go_roundg (17 - (i + 1))
        case measure => omega
        case rel => exact ⟨i + 1, by omega, by omega, by go_num, BA.out, HR.out⟩
    · have hltz : ¬ (i : Int) < 17 := by omega
      have h0 : codeFrom s i = 0 := by unfold codeFrom; rw [dif_neg hlt]
      have HZ := Lib.hid (A.out.symm.trans h0)
      clear h0
      go_wp2_with fail
      go_ret
      exact ⟨by rw [HZ.out]; rfl, BW.out⟩
end Go.Proofs.YtiognfhjmcbbpaaDoor

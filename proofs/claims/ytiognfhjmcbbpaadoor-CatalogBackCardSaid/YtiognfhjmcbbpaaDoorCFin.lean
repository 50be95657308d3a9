import Derived.Test.YtiognfhjmcbbpaaDoorCTxt
import Derived.Deep.LoopGhost
import Derived.Deep.MidRow
import Derived.Laws.Cells
namespace Go.Proofs.YtiognfhjmcbbpaaDoor
open Go.RowKit
set_option linter.unusedSimpArgs false
set_option linter.unusedVariables false

/-! ## Find -/

theorem Below.alloc1' (W : World) (o : Obj) : Below W.heap.size W (W.alloc o) := (Below.refl _ _).alloc (Nat.le_refl _) o
def algVals (i : Nat) : List Value := [.string (algRow i).1, .int .i64 (algRow i).2.1, .int .i64 (algRow i).2.2]
def algCells : List Value := (List.range 23).flatMap algVals
theorem flatR (f : Nat → List Value) (hf : ∀ i, (f i).length = 3) : ∀ n j, (((List.range n).flatMap f).length = n * 3) ∧ (j < n * 3 → ((List.range n).flatMap f)[j]? = (f (j / 3))[j % 3]?)
  | 0, j => ⟨rfl, fun h => by omega⟩
  | n + 1, j => by
    obtain ⟨ih1, ih2⟩ := flatR f hf n j
    rw [List.range_succ, List.flatMap_append]
    have e : [n].flatMap f = f n := by simp
    rw [e]
    refine ⟨by rw [List.length_append, ih1, hf]; omega, fun h => ?_⟩
    by_cases hj : j < n * 3
    · rw [List.getElem?_append_left (by omega)]
      exact ih2 hj
    · rw [List.getElem?_append_right (by omega), ih1, show j / 3 = n from by omega, show j - n * 3 = j % 3 from by omega]
theorem algCells_len : algCells.length = 69 := (flatR algVals (fun _ => rfl) 23 0).1
theorem algCells_get (i k : Nat) (hi : i < 23) (hk : k < 3) : algCells[i * 3 + k]? = (algVals i)[k]? := by
  have := (flatR algVals (fun _ => rfl) 23 (i * 3 + k)).2 (by omega)
  rw [show (i * 3 + k) / 3 = i from by omega, show (i * 3 + k) % 3 = k from by omega] at this
  exact this
theorem AlgAt.range {w : World} (h : AlgAt w) : w.rangeAt 0 0 algCells := fun j v hv => by
  have hj : j < 69 := by have := (List.getElem?_eq_some_iff.1 hv).1; rw [algCells_len] at this; exact this
  obtain ⟨h1, h2, h3⟩ := h (j / 3) (by omega)
  rw [Nat.zero_add]
  have hm : j % 3 = 0 ∨ j % 3 = 1 ∨ j % 3 = 2 := by omega
  rcases hm with hm | hm | hm
  · have e : j = j / 3 * 3 + 0 := by omega
    rw [e, algCells_get _ 0 (by omega) (by decide)] at hv
    rw [e]; cases hv; exact h1
  · have e : j = j / 3 * 3 + 1 := by omega
    rw [e, algCells_get _ 1 (by omega) (by decide)] at hv
    rw [e]; cases hv; exact h2
  · have e : j = j / 3 * 3 + 2 := by omega
    rw [e, algCells_get _ 2 (by omega) (by decide)] at hv
    rw [e]; cases hv; exact h3
theorem undA : Tryd.prog.underlying 62 = some (.array 23 61) := by kernel_rfl
theorem infoA : (Tryd.prog.info? 62).map (·.size) = some 69 := by kernel_rfl
theorem infoE : (Tryd.prog.info? 61).map (·.size) = some 3 := by kernel_rfl
theorem wl_loadA {ops : Array Oper} {rest : List Oper} {op : Oper} {a : Act} {w : World} {Q : Exit → Act → World → Prop} {X : Value} (h : AlgAt w) (e : X = .agg algCells.toArray) {x : Operand}
    (hgd : op.guard = none) (ho : op.op = .load 62 x) (hx : a.eval x = .pointer (some ⟨0, 0, none⟩)) (k : wpList Tryd.prog ops Q rest (a.put op.dst X) w) : wpList Tryd.prog ops Q (op :: rest) a w := by
  subst e
  exact wpList_load_mid hgd _ x ho _ 0 hx algCells _ h.range undA rfl (by rw [algCells_len]; exact infoA) k
theorem alg_extract (i : Nat) (hi : i < 23) : algCells.toArray.extract (i * 3) (i * 3 + 3) = (algVals i).toArray := by
  apply Array.ext_getElem?
  intro j
  rw [Array.getElem?_extract]
  have hsz : algCells.toArray.size = 69 := by rw [List.size_toArray, algCells_len]
  rw [hsz]
  by_cases hj : j < 3
  · rw [if_pos (by omega), List.getElem?_toArray, algCells_get i j hi hj, List.getElem?_toArray]
  · rw [if_neg (by omega), Array.getElem?_eq_none (by simp [algVals]; omega)]
theorem run_index_alg (i : Nat) (hi : i < 23) (w : World) : (Instr.index 62 (.agg algCells.toArray) (.int .i64 (i : Int))).run Tryd.prog w = .ok (.agg (algVals i).toArray) w := by
  have hagg : ∀ w, (isAgg 61).run Tryd.prog w = .ok true w := fun w => by
    unfold isAgg
    rw [Sem.run_bind, run_underlying Tryd.underlying61 w]
    rfl
  have hsz : ∀ w, (sizeOf 61).run Tryd.prog w = .ok 3 w := fun w => by
    have hi := infoE
    cases hq : Tryd.prog.info? 61 with
    | none => simp [hq] at hi
    | some i =>
      have : i.size = 3 := by simpa [hq] using hi
      simp [sizeOf, typeInfo, hq, this]
  have hin : 0 ≤ (i : Int) ∧ (i : Int) < ((23 : Nat) : Int) := by omega
  rw [← alg_extract i hi]
  simp [Instr.index, run_underlying undA, asIntOf, hin.1, hin.2, part, hagg, hsz, hi]

theorem bytes_ne {a b : ByteArray} (h : ¬ a = b) : (a == b) = false := by
  cases hq : (a == b) with
  | false => rfl
  | true => exact absurd (by
      obtain ⟨x⟩ := a
      obtain ⟨y⟩ := b
      have : (x == y) = true := hq
      simp at this
      rw [this]) h
/-- the first algorithm from place i on that has a name -/
def findFrom (s : ByteArray) (i : Nat) : Nat := if h : i < 23 then (if 1 ≤ i ∧ (algRow i).1 = s then i else findFrom s (i + 1)) else 0
termination_by 23 - i
set_option maxRecDepth 100000 in
set_option maxHeartbeats 2000000 in
theorem find_any (s : ByteArray) (w : World) (he : AlgAt w) :
    Calls Tryd.prog 23 #[.string s] w fun e w' => e = .returned (.int .i64 (findFrom s 0 : Nat)) ∧ Below w.heap.size w w' := by
  obtain ⟨X, hX⟩ : ∃ X, X = Value.agg algCells.toArray := ⟨_, rfl⟩
  have HX := Lib.hid hX
  have HE := Lib.hid he
  clear hX he
  go_enter Tryd.func23, Tryd.ntmps23
  go_wp2_with (refine wl_loadA HE.out HX.out rfl rfl rfl ?_)
  go_loopg [6] 23 (fun gg s6 wr => ∃ i : Nat, i ≤ 23 ∧ 23 - i ≤ gg ∧ s6 = .int .i64 i ∧ Aside (Below w.heap.size w wr) ∧ Aside (findFrom s i = findFrom s 0))
  case atStart => exact ⟨0, by omega, by omega, rfl, Below.refl _ _, rfl⟩
  case round =>
    obtain ⟨i, hi, hg, rfl, BW, A⟩ := hrel
    by_cases hlt : i < 23
    · have hltz : (i : Int) < 23 := by omega
      have hst : findFrom s i = if 1 ≤ i ∧ (algRow i).1 = s then i else findFrom s (i + 1) := by
        conv => lhs; unfold findFrom
        rw [dif_pos hlt]
      have HST := Lib.hid hst
      have hidx : ∀ W, (Instr.index 62 X (.int .i64 (i : Int))).run Tryd.prog W = .ok (.agg #[.string (algRow i).1, .int .i64 (algRow i).2.1, .int .i64 (algRow i).2.2]) W := fun W => by
        rw [HX.out]; exact run_index_alg i hlt W
      have HK := Lib.hid (fun W => known_any i W)
      have BA := Lib.hid (BW.out.trans ((Below.alloc1' wr (.cells #[.string (algRow i).1, .int .i64 (algRow i).2.1, .int .i64 (algRow i).2.2] 61)).mono BW.out.size))
      generalize (algRow i).1 = nm at *
      generalize (algRow i).2.1 = kd at *
      generalize (algRow i).2.2 = st at *
      clear hst
      go_wp2_with fail
      have q0 : (wr.alloc (.cells #[.string nm, .int .i64 kd, .int .i64 st] 61)).cell? ⟨wr.heap.size, 0, none⟩ = some (.string nm) := World.cell?_alloc_at _ _ _ _ rfl
      generalize wr.alloc (.cells #[.string nm, .int .i64 kd, .int .i64 st] 61) = W1 at *
      have hd : decide (1 ≤ (i : Int) ∧ (i : Int) ≤ 22) = decide (1 ≤ i) := by
        by_cases h : 1 ≤ i
        · rw [decide_eq_true h, decide_eq_true (by omega)]
        · rw [decide_eq_false h, decide_eq_false (by omega)]
      rw [hd] at HK
      refine (HK.out _).mono ?_
      rintro e w2 ⟨rfl, rfl⟩
      clear hd
      by_cases h1 : 1 ≤ i
      · rw [decide_eq_true h1]
        by_cases hns : nm = s
        · have HR := Lib.hid (show findFrom s 0 = i by rw [← A.out, HST.out, if_pos ⟨h1, hns⟩])
          subst hns
          go_wp2_with fail
          go_ret
          exact ⟨by rw [HR.out]; rfl, BA.out⟩
        · have HR := Lib.hid (show findFrom s (i + 1) = findFrom s 0 by rw [← A.out, HST.out, if_neg (fun h => hns h.2)])
          have hne : (nm.toList == s.toList) = false := by rw [← beq_toListBytes]; exact bytes_ne hns
          go_wp2_with fail
          go_roundg (23 - (i + 1))
          case measure => omega
          case rel => exact ⟨i + 1, by omega, by omega, by go_num, BA.out, HR.out⟩
      · rw [decide_eq_false h1]
        have HR := Lib.hid (show findFrom s (i + 1) = findFrom s 0 by rw [← A.out, HST.out, if_neg (fun h => h1 h.1)])
        go_wp2_with fail
        go_roundg (23 - (i + 1))
        case measure => omega
        case rel => exact ⟨i + 1, by omega, by omega, by go_num, BA.out, HR.out⟩
    · have hltz : ¬ (i : Int) < 23 := by omega
      have h0 : findFrom s i = 0 := by unfold findFrom; rw [dif_neg hlt]
      have HZ := Lib.hid (A.out.symm.trans h0)
      clear h0
      go_wp2_with fail
      go_ret
      exact ⟨by rw [HZ.out]; rfl, BW.out⟩
end Go.Proofs.YtiognfhjmcbbpaaDoor

import Derived.Test.YtpbahffkhpfakaaZ7
namespace Go.Proofs.Ytpbahffkhpfakaa
open Go.RowKit
set_option linter.unusedSimpArgs false
set_option linter.unusedVariables false

theorem load_any (c : Cal) (v1 v2 v3 : Value) (ts ds ask : List Int) (w : World) (h : CalAt w c) (h1 : IntsAt w v1 ts) (h2 : IntsAt w v2 ds) (h3 : IntsAt w v3 ask) (n1 : NilOk v1) (n3 : NilOk v3) (ha : ask.length ≤ 800) :
    Calls Try.prog 53 #[c.val, v1, v2, v3] w fun e w' => LoadOut c ts ds ask w e w' := by
  by_cases h0 : checkF c c.team.length = 0
  · by_cases hb : ts.length ≠ ds.length ∨ 24 < ts.length
    · exact load_form c v1 v2 v3 ts ds ask w h h1 h2 h0 hb
    · exact load_main c v1 v2 v3 ts ds ask w h h1 h2 h3 n1 n3 ha h0 (by omega) (by omega)
  · exact load_check c v1 v2 v3 ts ds ask w h h0

/-- which rooms are exceeded -/
def fullB (c : Cal) (f : Nat → Int) : Bool := (List.range 32).any fun i => (List.range c.room.length).any fun t => decide ((c.room[t]?).getD 0 < f (i * 8 + t))
theorem fullB_yes {c : Cal} {f : Nat → Int} {i t : Nat} (hi : i < 32) (ht : t < c.room.length) (h : c.room[t] < f (i * 8 + t)) : fullB c f = true := by
  unfold fullB
  rw [List.any_eq_true]
  refine ⟨i, by simpa using hi, ?_⟩
  rw [List.any_eq_true]
  refine ⟨t, by simpa using ht, ?_⟩
  rw [List.getElem?_eq_getElem ht]
  exact decide_eq_true h
theorem fullB_no {c : Cal} {f : Nat → Int} (h : ∀ i, i < 32 → ∀ t (ht : t < c.room.length), f (i * 8 + t) ≤ c.room[t]) : fullB c f = false := by
  unfold fullB
  rw [List.any_eq_false]
  intro i hi
  rw [Bool.not_eq_true, List.any_eq_false]
  intro t ht
  have hi' : i < 32 := by simpa using hi
  have ht' : t < c.room.length := by simpa using ht
  rw [List.getElem?_eq_getElem ht']
  simpa using h i hi' t ht'

def row8 (f : Nat → Int) (i : Nat) : Array Value := #[.int .i64 (f (i * 8)), .int .i64 (f (i * 8 + 1)), .int .i64 (f (i * 8 + 2)), .int .i64 (f (i * 8 + 3)), .int .i64 (f (i * 8 + 4)), .int .i64 (f (i * 8 + 5)), .int .i64 (f (i * 8 + 6)), .int .i64 (f (i * 8 + 7))]
theorem row8_extract (f : Nat → Int) (i : Nat) (hi : i < 32) : (nums 256 f).toArray.extract (i * 8) (i * 8 + 8) = row8 f i := by
  apply Array.ext_getElem?
  intro j
  rw [Array.getElem?_extract]
  have hsz : (nums 256 f).toArray.size = 256 := by rw [List.size_toArray, nums_length]
  rw [hsz]
  by_cases hj : j < 8
  · rw [if_pos (by omega), List.getElem?_toArray, nums_get 256 f _ (by omega)]
    match j, hj with
    | 0, _ => rfl
    | 1, _ => rfl
    | 2, _ => rfl
    | 3, _ => rfl
    | 4, _ => rfl
    | 5, _ => rfl
    | 6, _ => rfl
    | 7, _ => rfl
  · rw [if_neg (by omega), Array.getElem?_eq_none (by simp [row8]; omega)]
theorem run_index_loads (f : Nat → Int) (i : Nat) (hi : i < 32) (w : World) : (Instr.index 76 (lval f) (.int .i64 (i : Int))).run Try.prog w = .ok (.agg (row8 f i)) w := by
  have hagg : ∀ w, (isAgg 74).run Try.prog w = .ok true w := fun w => by
    unfold isAgg
    rw [Sem.run_bind, run_underlying undR w]
    rfl
  have hsz : ∀ w, (sizeOf 74).run Try.prog w = .ok 8 w := fun w => by
    have hi := infoR
    cases hq : Try.prog.info? 74 with
    | none => simp [hq] at hi
    | some i =>
      have : i.size = 8 := by simpa [hq] using hi
      simp [sizeOf, typeInfo, hq, this]
  have hin : 0 ≤ (i : Int) ∧ (i : Int) < ((32 : Nat) : Int) := by omega
  rw [← row8_extract f i hi]
  simp [Instr.index, lval, run_underlying undL, asIntOf, hin.1, hin.2, part, hagg, hsz, hi]
theorem wo_index {op : Oper} {a : Act} {w : World} {K : Act → World → Prop} {Q : Exit → Act → World → Prop} {f : Nat → Int} {i : Nat} (hi : i < 32) {x y : Operand}
    (ho : op.op = .index 76 x y) (hx : a.eval x = lval f) (hy : a.eval y = .int .i64 (i : Int)) (k : K (a.put op.dst (.agg (row8 f i))) w) : op.wp Try.prog a w K Q := by
  unfold Oper.wp execOp
  simp only [ho, hx, hy, run_index_loads f i hi w, Sem.run_bind, Sem.run_pure, Result.andThen_ok]
  exact k
end Go.Proofs.Ytpbahffkhpfakaa


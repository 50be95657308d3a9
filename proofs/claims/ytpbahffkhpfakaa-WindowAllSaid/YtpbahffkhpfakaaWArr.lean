import Derived.Test.YtpbahffkhpfakaaWNxt
import Derived.Deep.WholeRow
import Derived.Deep.MidRow
namespace Go.Proofs.Ytpbahffkhpfakaa
open Go.RowKit
set_option linter.unusedSimpArgs false
set_option linter.unusedVariables false

/-! ## Rows of 256 counts -/

def nums (n : Nat) (f : Nat → Int) : List Value := (List.range n).map fun o => .int .i64 (f o)
def lval (f : Nat → Int) : Value := .agg (nums 256 f).toArray
theorem nums_length (n : Nat) (f : Nat → Int) : (nums n f).length = n := by simp [nums]
theorem nums_get (n : Nat) (f : Nat → Int) (o : Nat) (h : o < n) : (nums n f)[o]? = some (.int .i64 (f o)) := by simp [nums, h]
theorem infoL : (Try.prog.info? 76).map (·.size) = some 256 := by kernel_rfl
theorem infoR : (Try.prog.info? 74).map (·.size) = some 8 := by kernel_rfl
theorem undL : Try.prog.underlying 76 = some (.array 32 74) := by kernel_rfl
theorem undR : Try.prog.underlying 74 = some (.array 8 3) := by kernel_rfl
theorem zeroL : Try.zeroCells76 = (nums 256 fun _ => 0).toArray := by kernel_rfl

/-- counts in a block -/
def Counts (w : World) (b o n : Nat) (f : Nat → Int) : Prop := ∀ j, j < n → w.cell? ⟨b, o + j, none⟩ = some (.int .i64 (f j)) ∧ w.frozen? ⟨b, o + j, none⟩ = false
theorem Counts.range {w : World} {b o n : Nat} {f : Nat → Int} (h : Counts w b o n f) : w.rangeAt b o (nums n f) := by
  intro j v hv
  have hj : j < n := by
    have := (List.getElem?_eq_some_iff.1 hv).1
    simpa [nums_length] using this
  rw [nums_get n f j hj] at hv
  rw [← hv]
  exact (h j hj).1
theorem Counts.there {w : World} {b o n : Nat} {f : Nat → Int} (h : Counts w b o n f) : w.there b o n := fun j hj => ⟨by rw [(h j hj).1]; rfl, (h j hj).2⟩
theorem Counts.below {w w' : World} {b o n : Nat} {f : Nat → Int} (h : Counts w b o n f) (hb : Below w.heap.size w w') (hbs : b < w.heap.size) : Counts w' b o n f := fun j hj =>
  ⟨(hb.cell (p := ⟨b, o + j, none⟩) hbs).trans (h j hj).1, (hb.frozen (p := ⟨b, o + j, none⟩) hbs).trans (h j hj).2⟩

theorem load_counts {w : World} {b : Nat} {f : Nat → Int} (h : Counts w b 0 256 f) : (Instr.loadAt 76 (.pointer (some ⟨b, 0, none⟩))).run Try.prog w = .ok (lval f) w :=
  run_loadAt_mid w b 0 _ (nums 256 f) _ h.range undL rfl (by rw [nums_length]; exact infoL)
theorem nums_all (n : Nat) (f : Nat → Int) : (nums n f).toArray.all (·.oneCell') = true := by
  simp [nums, Value.oneCell']
theorem store_counts {w : World} {b : Nat} {f g : Nat → Int} (h : Counts w b 0 256 f) : (Instr.storeAt 76 (.pointer (some ⟨b, 0, none⟩)) (lval g)).run Try.prog w = .ok () (w.setCells b 0 (nums 256 g)) := by
  have := run_storeAt_mid (P := Try.prog) w b 0 76 (nums 256 g).toArray (by rw [List.size_toArray, nums_length]; exact h.there) (by rw [List.size_toArray, nums_length]; exact infoL) (nums_all 256 g)
  rw [List.toList_toArray] at this
  exact this
end Go.Proofs.Ytpbahffkhpfakaa

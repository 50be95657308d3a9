import Derived.Test.YtiognfhjmcbbpaaDoorCGrP
import Derived.Lib.LaidTab
namespace Go.Proofs.YtiognfhjmcbbpaaDoor
open Go.RowKit
set_option linter.unusedSimpArgs false
set_option linter.unusedVariables false

/-! ## What the rows of stage 2 list, as facts on memory -/

theorem pow_laid : (Rows.laid_internal_strconv_uint64pow10 : DataW Unit) = Lib.tabData .u64 Lib.pow10Tab := by kernel_rfl
theorem pow_tab {w : World} (h : Rd Tryd.prog w "internal/strconv.uint64pow10" Rows.laid_internal_strconv_uint64pow10) : Lib.TabIs Tryd.prog w "internal/strconv.uint64pow10" .u64 Lib.pow10Tab := by
  obtain ⟨g, t, cs, fuel, p, hg, hty, hvar, hd⟩ := h
  obtain rfl := Option.some.inj (gpow.symm.trans hg)
  obtain rfl := Option.some.inj ((show (Tryd.prog.globals[5]?).map (·.type) = some 110 from by kernel_rfl).symm.trans hty)
  rw [pow_laid] at hd
  unfold Lib.TabIs
  rw [hvar, ← Lib.cells_of_tab Tryd.underlying110 Tryd.underlying88 (by kernel_rfl) (by kernel_rfl) hd]
theorem env_of {w : World} (h : laidMet Tryd.prog Rows.catalogGrowsRow.laid w) : Env w ∧ SuAt w := by
  have h1 := rd_of h (n := "cipherplan/catalog.algorithms") (d := Rows.laid_cipherplan_catalog_algorithms) (.tail _ (.tail _ (.tail _ (.tail _ (.tail _ (.head _))))))
  have h2 := rd_of h (n := "internal/strconv.uint64pow10") (d := Rows.laid_internal_strconv_uint64pow10) (.tail _ (.tail _ (.head _)))
  have h3 := rd_of h (n := "cipherplan/catalog.suites") (d := Rows.laid_cipherplan_catalog_suites) (.tail _ (.tail _ (.tail _ (.tail _ (.tail _ (.tail _ (.head _)))))))
  exact ⟨⟨alg_cells h1, pow_tab h2⟩, su_cells h3⟩
theorem max_of {w : World} (h : w.ShapedOpen Tryd.prog) : MaxAt w :=
  Go.Proofs.cell_of_shapedOpen_int (zero := #[.int .i64 0]) (t := 3) h (of_decide_eq_true (by kernel_rfl)) (by kernel_rfl) rfl (by kernel_rfl) (by kernel_rfl) Tryd.underlying3
theorem own_knob : ownKnob Tryd.prog.godebug = none := by kernel_rfl
end Go.Proofs.YtiognfhjmcbbpaaDoor

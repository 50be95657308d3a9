import Derived.Test.YtiognfhjmcbbpaaDoorRows
import Derived.Below
import Derived.Lib.Hide
import Derived.ChangeArms
import Derived.LaidLaws
import Derived.FnData
import Derived.KernelRfl
namespace Go.Proofs.YtiognfhjmcbbpaaDoor
open Go.RowKit Go.ChangeShapes
set_option linter.unusedSimpArgs false
set_option linter.unusedVariables false

/-! ## The tables of the catalog: from what is laid to the cells -/

/-- one listed variable's reading -/
def Rd (P : Program) (w : World) (n : String) (d : DataW Unit) : Prop :=
  ∃ g t cs fuel p, P.globalNamed n = some g ∧ (P.globals[g]?).map (·.type) = some t ∧ w.var? P n = some cs ∧ DataW.trod (fun _ => ()) P w 0 (fun _ => true) false fuel t cs.toList = some (d, p)
theorem rd_of_vars {P : Program} {w : World} : ∀ {l : List (String × DataW Unit)} {ps : List MemPlace}, DataW.LaidVars P w l ps → ∀ n d, (n, d) ∈ l → Rd P w n d
  | [], _, _, _, _, hm => by cases hm
  | (n', d') :: r, ps, h, n, d, hm => by
    obtain ⟨g, t, cs, fuel, p, q, h1, h2, h3, h4, h5, _⟩ := h
    rcases List.mem_cons.1 hm with e | e
    · cases e
      exact ⟨g, t, cs, fuel, p, h1, h2, h3, h4⟩
    · exact rd_of_vars h5 n d e
theorem rd_of {P : Program} {w : World} {l : List (String × DataW Unit)} (h : laidMet P l w) {n : String} {d : DataW Unit} (hm : (n, d) ∈ l) : Rd P w n d := by
  obtain ⟨_, hv, _⟩ := h
  exact rd_of_vars hv n d hm
section
variable {H : Type} {enc : TypeId × Value → H} {P : Program} {w : World} {base : Nat} {sp : Nat → Bool} {held : Bool}
theorem arr_elem {fuel : Nat} {t e : TypeId} {n : Nat} {cs : List Value} {x : DataW H × List MemPlace} (ht : P.underlying t = some (.array n e)) (h : DataW.trod enc P w base sp held fuel t cs = some x) :
    ∃ ds, x.1 = .agg ds ∧ ds.length = n ∧ ∀ i, i < n → ∃ f d q, ds[i]? = some d ∧ DataW.trod enc P w base sp held f e ((cs.drop (i * P.cellsOf e)).take (P.cellsOf e)) = some (d, q) := by
  cases fuel with
  | zero => simp [DataW.trod] at h
  | succ fuel =>
    simp only [DataW.trod, ht] at h
    split at h
    · obtain ⟨xs, hm, hx⟩ := Option.map_eq_some_iff.1 h
      refine ⟨xs.map (·.1), by rw [← hx], by have := mapM_some_length hm; simpa using this, fun i hi => ?_⟩
      have hk := mapM_some_get hm i i (by simp [hi])
      have hlen : i < xs.length := by have := mapM_some_length hm; simp at this; omega
      rw [List.getElem?_eq_getElem hlen] at hk
      exact ⟨fuel, _, _, by simp [hlen], hk⟩
    · cases h
end
def dsAlg : List (DataW Unit) := match (Rows.laid_cipherplan_catalog_algorithms : DataW Unit) with | .agg l => l | _ => []
def rowAlg : DataW Unit → ByteArray × Int × Int
  | .agg [.lit (.string s), .lit (.int _ a), .lit (.int _ b)] => (⟨s.toArray⟩, a, b)
  | _ => (⟨#[]⟩, 0, 0)
def algRow (i : Nat) : ByteArray × Int × Int := rowAlg ((dsAlg[i]?).getD .nil)
/-- the table of algorithms, as it lies in memory -/
def AlgAt (w : World) : Prop := ∀ i, i < 23 → w.cell? ⟨0, i * 3, none⟩ = some (.string (algRow i).1) ∧ w.cell? ⟨0, i * 3 + 1, none⟩ = some (.int .i64 (algRow i).2.1) ∧ w.cell? ⟨0, i * 3 + 2, none⟩ = some (.int .i64 (algRow i).2.2)
theorem AlgAt.size {w : World} (h : AlgAt w) : 0 < w.heap.size := by
  have := (h 0 (by decide)).1
  unfold World.cell? at this
  by_cases h1 : 0 < w.heap.size
  · exact h1
  · rw [Array.getElem?_eq_none (by simp only; omega)] at this; cases this
theorem AlgAt.below {w w' : World} (h : AlgAt w) (hb : Below w.heap.size w w') : AlgAt w' := fun i hi => by
  have hs := h.size
  obtain ⟨h1, h2, h3⟩ := h i hi
  exact ⟨(hb.cell (p := ⟨0, i * 3, none⟩) hs).trans h1, (hb.cell (p := ⟨0, i * 3 + 1, none⟩) hs).trans h2, (hb.cell (p := ⟨0, i * 3 + 2, none⟩) hs).trans h3⟩
theorem list3v {α : Type} (l : List α) (h : l.length = 3) : ∃ a b c, l = [a, b, c] := by
  match l, h with
  | [a, b, c], _ => exact ⟨a, b, c, rfl⟩
theorem drop_get (cs : List Value) (n k i : Nat) (c : List Value) (h : (cs.drop n).take k = c) (hi : i < k) : cs[n + i]? = c[i]? := by
  rw [← h]
  simp [List.getElem?_take, hi, List.getElem?_drop]
theorem alg_cells {w : World} (h : Rd Tryd.prog w "cipherplan/catalog.algorithms" Rows.laid_cipherplan_catalog_algorithms) : AlgAt w := by
  obtain ⟨g, t, cs, fuel, p, hg, hty, hvar, hd⟩ := h
  obtain rfl := Option.some.inj ((show Tryd.prog.globalNamed "cipherplan/catalog.algorithms" = some 0 from by kernel_rfl).symm.trans hg)
  obtain rfl := Option.some.inj ((show (Tryd.prog.globals[0]?).map (·.type) = some 62 from by kernel_rfl).symm.trans hty)
  have hC : Tryd.prog.cellsOf 61 = 3 := by kernel_rfl
  have hS : Tryd.prog.cellsOf 9 = 1 := by kernel_rfl
  have hI : Tryd.prog.cellsOf 3 = 1 := by kernel_rfl
  obtain ⟨ds, e, hlen, hall⟩ := arr_elem Tryd.underlying62 hd
  have hds : dsAlg = ds := by
    unfold dsAlg
    have e2 : (Rows.laid_cipherplan_catalog_algorithms : DataW Unit) = .agg ds := e
    rw [e2]
  intro i hi
  obtain ⟨f, d, q, h1, h2⟩ := hall i hi
  rw [hC] at h2
  obtain ⟨xs, n, _, hx, hl, hxl, hfs⟩ := DataW.trod_struct Tryd.underlying61 h2
  rw [hC] at hl
  obtain ⟨a, b, c, hrow⟩ := list3v _ hl
  obtain ⟨x0, x1, x2, rfl⟩ := list3v xs hxl
  rw [hrow] at hfs
  have g0 := hfs 0 _ rfl
  have g1 := hfs 1 _ rfl
  have g2 := hfs 2 _ rfl
  simp [hS, hI] at g0 g1 g2
  obtain ⟨s, e0, f0, _⟩ := DataW.trod_string Tryd.underlying9 g0
  obtain ⟨z1, e1, f1, _⟩ := DataW.trod_int Tryd.underlying3 g1
  obtain ⟨z2, e2, f2, _⟩ := DataW.trod_int Tryd.underlying3 g2
  simp at e0 e1 e2
  have hr : algRow i = (s, z1, z2) := by
    unfold algRow
    rw [hds, h1]
    have hx' := congrArg Prod.fst hx
    simp only [List.map_cons, List.map_nil, f0, f1, f2] at hx'
    rw [hx']
    rfl
  rw [hr]
  have c0 := drop_get cs.toList (i * 3) 3 0 _ hrow (by decide)
  have c1 := drop_get cs.toList (i * 3) 3 1 _ hrow (by decide)
  have c2 := drop_get cs.toList (i * 3) 3 2 _ hrow (by decide)
  simp [e0, e1, e2] at c0 c1 c2
  refine ⟨(World.var?_cell hg hvar (i * 3)).trans ?_, (World.var?_cell hg hvar (i * 3 + 1)).trans ?_, (World.var?_cell hg hvar (i * 3 + 2)).trans ?_⟩
  · simpa using c0
  · simpa using c1
  · simpa using c2
end Go.Proofs.YtiognfhjmcbbpaaDoor

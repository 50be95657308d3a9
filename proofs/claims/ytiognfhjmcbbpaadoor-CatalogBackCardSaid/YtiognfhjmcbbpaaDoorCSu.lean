import Derived.Test.YtiognfhjmcbbpaaDoorCTab
import Derived.Deep.MidRow
namespace Go.Proofs.YtiognfhjmcbbpaaDoor
open Go.RowKit Go.ChangeShapes
set_option linter.unusedSimpArgs false
set_option linter.unusedVariables false

/-! ## The table of suites: from what is laid to the cells -/

def dsSu : List (DataW Unit) := match (Rows.laid_cipherplan_catalog_suites : DataW Unit) with | .agg l => l | _ => []
structure SuR where
  nm : ByteArray
  a : Int
  b : Int
  c : Int
  d : Int
  e : Int
  f : Int
  g : Int
  h : Int
  l : Int
  m : Int
def rowSu : DataW Unit → SuR
  | .agg [.lit (.string s), .agg [.lit (.int _ a), .lit (.int _ b)], .agg [.lit (.int _ c), .lit (.int _ d)], .agg [.lit (.int _ e), .lit (.int _ f)], .agg [.lit (.int _ g), .lit (.int _ h)], .lit (.int _ l), .lit (.int _ m)] => ⟨⟨s.toArray⟩, a, b, c, d, e, f, g, h, l, m⟩
  | _ => ⟨⟨#[]⟩, 0, 0, 0, 0, 0, 0, 0, 0, 0, 0⟩
def suRow (i : Nat) : SuR := rowSu ((dsSu[i]?).getD .nil)
def SuR.vals (r : SuR) : List Value := [.string r.nm, .int .i64 r.a, .int .i64 r.b, .int .i64 r.c, .int .i64 r.d, .int .i64 r.e, .int .i64 r.f, .int .i64 r.g, .int .i64 r.h, .int .i64 r.l, .int .i64 r.m]
/-- the table of suites, as it lies in memory -/
def SuAt (w : World) : Prop := ∀ i, i < 17 → w.rangeAt 1 (i * 11) (suRow i).vals
theorem SuAt.size {w : World} (h : SuAt w) : 1 < w.heap.size := by
  have := h 0 (by decide) 0 _ rfl
  unfold World.cell? at this
  by_cases h1 : 1 < w.heap.size
  · exact h1
  · rw [Array.getElem?_eq_none (by simp only; omega)] at this; cases this
theorem SuAt.below {w w' : World} (h : SuAt w) (hb : Below w.heap.size w w') : SuAt w' := fun i hi j v hv =>
  (hb.cell (p := ⟨1, i * 11 + j, none⟩) h.size).trans (h i hi j v hv)
theorem list2v {α : Type} (l : List α) (h : l.length = 2) : ∃ a b, l = [a, b] := by
  match l, h with
  | [a, b], _ => exact ⟨a, b, rfl⟩
theorem list7v {α : Type} (l : List α) (h : l.length = 7) : ∃ a b c d e f g, l = [a, b, c, d, e, f, g] := by
  match l, h with
  | [a, b, c, d, e, f, g], _ => exact ⟨a, b, c, d, e, f, g, rfl⟩
theorem list11v {α : Type} (l : List α) (h : l.length = 11) : ∃ a b c d e f g h i j k, l = [a, b, c, d, e, f, g, h, i, j, k] := by
  match l, h with
  | [a, b, c, d, e, f, g, h, i, j, k], _ => exact ⟨a, b, c, d, e, f, g, h, i, j, k, rfl⟩
theorem use_two {w : World} {fuel : Nat} {x y : Value} {z : DataW Unit × List MemPlace} (h : DataW.trod (fun _ => ()) Tryd.prog w 0 (fun _ => true) false fuel 23 [x, y] = some z) :
    ∃ a b, x = .int .i64 a ∧ y = .int .i64 b ∧ z.1 = .agg [.lit (.int .i64 a), .lit (.int .i64 b)] := by
  have hI : Tryd.prog.cellsOf 3 = 1 := by kernel_rfl
  obtain ⟨xs, n, _, hx, hl, hxl, hfs⟩ := DataW.trod_struct Tryd.underlying23 h
  obtain ⟨x0, x1, rfl⟩ := list2v xs hxl
  have g0 := hfs 0 _ rfl
  have g1 := hfs 1 _ rfl
  simp [hI] at g0 g1
  obtain ⟨z1, e1, f1, _⟩ := DataW.trod_int Tryd.underlying3 g0
  obtain ⟨z2, e2, f2, _⟩ := DataW.trod_int Tryd.underlying3 g1
  simp at e1 e2
  refine ⟨z1, z2, e1, e2, ?_⟩
  rw [hx]
  simp only [List.map_cons, List.map_nil, f1, f2]
theorem su_cells {w : World} (h : Rd Tryd.prog w "cipherplan/catalog.suites" Rows.laid_cipherplan_catalog_suites) : SuAt w := by
  obtain ⟨g, t, cs, fuel, p, hg, hty, hvar, hd⟩ := h
  obtain rfl := Option.some.inj ((show Tryd.prog.globalNamed "cipherplan/catalog.suites" = some 1 from by kernel_rfl).symm.trans hg)
  obtain rfl := Option.some.inj ((show (Tryd.prog.globals[1]?).map (·.type) = some 70 from by kernel_rfl).symm.trans hty)
  have hC : Tryd.prog.cellsOf 69 = 11 := by kernel_rfl
  have hS : Tryd.prog.cellsOf 9 = 1 := by kernel_rfl
  have hI : Tryd.prog.cellsOf 3 = 1 := by kernel_rfl
  have hU : Tryd.prog.cellsOf 23 = 2 := by kernel_rfl
  obtain ⟨ds, e, hlen, hall⟩ := arr_elem Tryd.underlying70 hd
  have hds : dsSu = ds := by
    unfold dsSu
    have e2 : (Rows.laid_cipherplan_catalog_suites : DataW Unit) = .agg ds := e
    rw [e2]
  intro i hi
  obtain ⟨f, d, q, h1, h2⟩ := hall i hi
  rw [hC] at h2
  obtain ⟨xs, n, _, hx, hl, hxl, hfs⟩ := DataW.trod_struct Tryd.underlying69 h2
  rw [hC] at hl
  obtain ⟨a0, a1, a2, a3, a4, a5, a6, a7, a8, a9, a10, hrow⟩ := list11v _ hl
  obtain ⟨x0, x1, x2, x3, x4, x5, x6, rfl⟩ := list7v xs hxl
  rw [hrow] at hfs
  have g0 := hfs 0 _ rfl
  have g1 := hfs 1 _ rfl
  have g2 := hfs 2 _ rfl
  have g3 := hfs 3 _ rfl
  have g4 := hfs 4 _ rfl
  have g5 := hfs 5 _ rfl
  have g6 := hfs 6 _ rfl
  simp [hS, hI, hU] at g0 g1 g2 g3 g4 g5 g6
  obtain ⟨s, e0, f0, _⟩ := DataW.trod_string Tryd.underlying9 g0
  obtain ⟨u1, u2, e1, e2, f1⟩ := use_two g1
  obtain ⟨u3, u4, e3, e4, f2⟩ := use_two g2
  obtain ⟨u5, u6, e5, e6, f3⟩ := use_two g3
  obtain ⟨u7, u8, e7, e8, f4⟩ := use_two g4
  obtain ⟨z1, e9, f5, _⟩ := DataW.trod_int Tryd.underlying3 g5
  obtain ⟨z2, e10, f6, _⟩ := DataW.trod_int Tryd.underlying3 g6
  simp at e0 e9 e10
  have hr : suRow i = ⟨s, u1, u2, u3, u4, u5, u6, u7, u8, z1, z2⟩ := by
    unfold suRow
    rw [hds, h1]
    have hx' := congrArg Prod.fst hx
    simp only [List.map_cons, List.map_nil, f0, f1, f2, f3, f4, f5, f6] at hx'
    rw [hx']
    rfl
  have hv : (suRow i).vals = [a0, a1, a2, a3, a4, a5, a6, a7, a8, a9, a10] := by
    rw [hr, e0, e1, e2, e3, e4, e5, e6, e7, e8, e9, e10]
    rfl
  intro j v hj
  rw [hv, ← hrow] at hj
  have hj11 : j < 11 := by
    have := (List.getElem?_eq_some_iff.1 hj).1
    rw [hl] at this
    exact this
  refine (World.var?_cell hg hvar (i * 11 + j)).trans ?_
  have c := drop_get cs.toList (i * 11) 11 j _ rfl hj11
  rw [hj] at c
  simpa using c
end Go.Proofs.YtiognfhjmcbbpaaDoor

import Derived.Test.YtiognfhjmcbbpaaDoorCSu
import Derived.Test.YtiognfhjmcbbpaaDoorCPar
namespace Go.Proofs.YtiognfhjmcbbpaaDoor
open Go.RowKit
set_option linter.unusedSimpArgs false
set_option linter.unusedVariables false

/-! ## row -/

theorem undS : Tryd.prog.underlying 69 = some (.struct (match Tryd.prog.underlying 69 with | some (.struct f) => f | _ => #[])) := by kernel_rfl
theorem infoS : (Tryd.prog.info? 69).map (·.size) = some 11 := by kernel_rfl
theorem infoSu : (Tryd.prog.info? 29).map (·.size) = some 12 := by kernel_rfl
theorem wl_loadS {ops : Array Oper} {rest : List Oper} {op : Oper} {a : Act} {w : World} {Q : Exit → Act → World → Prop} (i : Nat) (hi : i < 17) (h : SuAt w) {nm : ByteArray} {v0 v1 v2 v3 v4 v5 v6 v7 v8 v9 : Int} (hr : suRow i = ⟨nm, v0, v1, v2, v3, v4, v5, v6, v7, v8, v9⟩) {x : Operand}
    (hgd : op.guard = none) (ho : op.op = .load 69 x) (hx : a.eval x = .pointer (some ⟨1, i * 11, none⟩)) (k : wpList Tryd.prog ops Q rest (a.put op.dst (.agg #[.string nm, .int .i64 v0, .int .i64 v1, .int .i64 v2, .int .i64 v3, .int .i64 v4, .int .i64 v5, .int .i64 v6, .int .i64 v7, .int .i64 v8, .int .i64 v9])) w) : wpList Tryd.prog ops Q (op :: rest) a w :=
  wpList_load_mid hgd _ x ho _ _ hx _ _ (h i hi) undS rfl infoS (by rw [hr]; exact k)
theorem results_cell_row0 {P : Program} {fn : Func} {p : Tmp} {ty : TypeId} (h : fn.results = #[.cell p ty]) (tmps : Array Value) (w : World) (g : Nat) (t : TypeId) (cs : Array Value) (fr : Nat × Nat) (d : TypeDesc)
    (hp : tmps.getD p undef = .pointer (some ⟨g, 0, none⟩)) (hg : w.heap[g]? = some (.cells cs t fr))
    (hu : P.underlying ty = some d) (hd : (match d with | .struct _ | .array _ _ => true | _ => false) = true) (hi : (P.info? ty).map (·.size) = some cs.size) :
    (results fn tmps).run P w = .ok (.agg cs) w := by
  have hp' : tmps[p]?.getD undef = .pointer (some ⟨g, 0, none⟩) := by simpa using hp
  simp [results, h, hp', asAddr, Sem.run_bind, Result.andThen, run_loadVar_row w g t ty cs fr d hg hu hd hi]
theorem heap_two (W : World) (o o2 : Obj) : ((W.alloc o).alloc o2).heap[W.heap.size]? = some o := by
  have h1 := (MapKept.heap_alloc W o).1
  have h2 : W.heap.size < (W.alloc o).heap.size := by simp
  exact ((Below.alloc1' (W.alloc o) o2).block W.heap.size h2).trans h1
def SuR.cells (r : SuR) (i : Int) : Array Value := #[.int .i64 i, .string r.nm, .int .i64 r.a, .int .i64 r.b, .int .i64 r.c, .int .i64 r.d, .int .i64 r.e, .int .i64 r.f, .int .i64 r.g, .int .i64 r.h, .int .i64 r.l, .int .i64 r.m]
set_option maxRecDepth 100000 in
set_option maxHeartbeats 2000000 in
theorem row_any (i : Nat) (hi : i < 17) (w : World) (he : SuAt w) :
    Calls Tryd.prog 36 #[.int .i64 i] w fun e w' => e = .returned (.agg ((suRow i).cells i)) ∧ Below w.heap.size w w' := by
  have hiz : (i : Int) < 17 := by omega
  have HI := Lib.hid hi
  have HE := Lib.hid he
  clear he hi
  obtain ⟨r, hr⟩ : ∃ r, suRow i = r := ⟨_, rfl⟩
  rw [hr]
  obtain ⟨nm, v0, v1, v2, v3, v4, v5, v6, v7, v8, v9⟩ := r
  have HR := Lib.hid hr
  clear hr
  unfold SuR.cells
  simp only []
  go_enter Tryd.func36, Tryd.ntmps36
  go_wp2_with (refine wl_loadS i HI.out (HE.out.below (Below.alloc1' _ _)) HR.out rfl rfl rfl ?_)
  refine bodyPost_ret (v := .agg #[.int .i64 i, .string nm, .int .i64 v0, .int .i64 v1, .int .i64 v2, .int .i64 v3, .int .i64 v4, .int .i64 v5, .int .i64 v6, .int .i64 v7, .int .i64 v8, .int .i64 v9]) ?hr rfl ?_
  case hr => exact results_cell_row0 (P := Tryd.prog) (fn := Tryd.f36) (p := 2) rfl _ _ w.heap.size 29 _ (0, 0) _ rfl (heap_two _ _ _) Tryd.underlying29 rfl infoSu
  exact ⟨rfl, (Below.alloc1' _ _).trans ((Below.alloc1' _ _).mono (by simp))⟩
end Go.Proofs.YtiognfhjmcbbpaaDoor

import Derived.Test.YtpjcaanlagibpaaNum
import Derived.Lib.LazyBuf
import Derived.Lib.SlBuf
import Derived.Lib.Strings
namespace Go.Proofs.Ytpjcaanlagibpaa
open Go.RowKit
set_option linter.unusedSimpArgs false
set_option linter.unusedVariables false

theorem run_copy_string_long {P : Program} (w : World) (dT sT ty elem : TypeId) (b o dLen dCap : Nat) (t : ByteArray)
    (hu : P.underlying dT = some (.slice elem)) (hz : ∀ w, (Go.sizeOf elem).run P w = .ok 1 w) (hle : dLen ≤ t.size)
    (hc : ∀ j, j < dLen → (w.cell? ⟨b, o + j, none⟩).isSome = true) (hf : ∀ j, j < dLen → w.frozen? ⟨b, o + j, none⟩ = false) :
    (Builtin.copy_ #[dT, sT] ty #[.slice (some ⟨b, o, none⟩) dLen dCap, .string t]).run P w = .ok (goInt dLen) (w.setCells b o ((t.data.toList.map fun x => Value.int .u8 (x.toNat : Int)).take dLen)) := by
  have hmin : Nat.min t.size dLen = dLen := Nat.min_eq_right hle
  have hl : ((t.data.toList.map fun x => Value.int .u8 (x.toNat : Int)).take dLen).length = dLen := by rw [List.length_take, List.length_map, ← Lib.size_eq]; omega
  have hst := run_storeCells_cells (P := P) b o ((t.data.toList.map fun x => Value.int .u8 (x.toNat : Int)).take dLen) 0 w (by rw [hl]; simpa using hc) (by rw [hl]; simpa using hf) (by
    intro v hv
    obtain ⟨x, _, rfl⟩ := List.mem_map.1 (List.mem_of_mem_take hv)
    rfl)
  simp [Builtin.copy_, run_underlying hu, Builtin.lenOf, Builtin.firstCells, hz, hmin]
  simp at hst
  rw [hst]
  rfl

/-- what is known when the bytes of a record have been copied into the array -/
structure Dmid (w W3 : World) (r : List UInt8) : Prop where
  below : Below w.heap.size w W3
  size : w.heap.size + 2 ≤ W3.heap.size
  bytes : BytesAt W3 (w.heap.size + 1) 0 r
  res : ∀ j, j < 5 → ∃ v, W3.cell? ⟨w.heap.size, j, none⟩ = some v
  rfree : ∀ j, W3.frozen? ⟨w.heap.size, j, none⟩ = false

theorem Dmid.mono {w W3 W4 : World} {r : List UInt8} (h : Dmid w W3 r) (hb : Below W3.heap.size W3 W4) : Dmid w W4 r := by
  have hs := h.size
  refine ⟨h.below.trans (hb.mono (by omega)), Nat.le_trans hs hb.size, fun i hi => ?_, fun j hj => ?_, fun j => ?_⟩
  · rw [hb.cell (p := ⟨w.heap.size + 1, 0 + i, none⟩) (by show w.heap.size + 1 < _; omega)]; exact h.bytes i hi
  · obtain ⟨v, hv⟩ := h.res j hj
    exact ⟨v, by rw [hb.cell (p := ⟨w.heap.size, j, none⟩) (by show w.heap.size < _; omega)]; exact hv⟩
  · rw [hb.frozen (p := ⟨w.heap.size, j, none⟩) (by show w.heap.size < _; omega)]; exact h.rfree j

def copied (s : ByteArray) (at' : Nat) : List Value := (((s.extract at' s.size).data.toList.map fun x => Value.int .u8 (x.toNat : Int)).take 12)
def recAt (l : List UInt8) (at' : Nat) : List UInt8 := (l.drop at').take 12

theorem copied_eq (s : ByteArray) (at' : Nat) : copied s at' = (recAt s.data.toList at').map fun x => Value.int .u8 (x.toNat : Int) := by
  unfold copied recAt
  rw [Lib.extract_data, ← List.map_take]
  congr 1
  rw [List.take_of_length_le (l := List.drop at' s.data.toList) (by rw [List.length_drop, ← Lib.size_eq]; omega)]

theorem recAt_length (s : ByteArray) (at' : Nat) (h : at' + 12 ≤ s.size) : (recAt s.data.toList at').length = 12 := by
  unfold recAt
  rw [List.length_take, List.length_drop, ← Lib.size_eq]; omega

theorem size_setCells' (b : Nat) : ∀ (vs : List Value) (o : Nat) (w : World), (w.setCells b o vs).heap.size = w.heap.size
  | [], _, _ => rfl
  | v :: r, o, w => by rw [World.setCells, size_setCells' b r, World.size_setCell]

theorem below_setCells' {B b : Nat} {a : World} (hb : B ≤ b) : ∀ (vs : List Value) (o : Nat) (w : World), Below B a w → Below B a (w.setCells b o vs)
  | [], _, _, h => h
  | v :: r, o, w, h => below_setCells' hb r (o + 1) _ (h.setCell (by exact hb) v)

theorem frozen_cells (w : World) (c : Array Value) (t : TypeId) (a : Addr) : (w.alloc (.cells c t)).frozen? a = w.frozen? a := frozen?_alloc_cells w c t a

theorem copied_mid (w : World) (s : ByteArray) (at' : Nat) (h : at' + 12 ≤ s.size) :
    (Builtin.copy_ #[60, 9] 3 #[.slice (some ⟨w.heap.size + 1, 0, none⟩) 12 12, .string (s.extract at' s.size)]).run Try.prog ((w.alloc (.cells #[.int .i64 0, .int .i64 0, .int .i64 0, .int .i64 0, .int .i64 0] 27)).alloc (.cells #[.int .u8 0, .int .u8 0, .int .u8 0, .int .u8 0, .int .u8 0, .int .u8 0, .int .u8 0, .int .u8 0, .int .u8 0, .int .u8 0, .int .u8 0, .int .u8 0] 87)).drew = .ok (goInt 12) (((w.alloc (.cells #[.int .i64 0, .int .i64 0, .int .i64 0, .int .i64 0, .int .i64 0] 27)).alloc (.cells #[.int .u8 0, .int .u8 0, .int .u8 0, .int .u8 0, .int .u8 0, .int .u8 0, .int .u8 0, .int .u8 0, .int .u8 0, .int .u8 0, .int .u8 0, .int .u8 0] 87)).drew.setCells (w.heap.size + 1) 0 (copied s at')) ∧
    Dmid w (((w.alloc (.cells #[.int .i64 0, .int .i64 0, .int .i64 0, .int .i64 0, .int .i64 0] 27)).alloc (.cells #[.int .u8 0, .int .u8 0, .int .u8 0, .int .u8 0, .int .u8 0, .int .u8 0, .int .u8 0, .int .u8 0, .int .u8 0, .int .u8 0, .int .u8 0, .int .u8 0] 87)).drew.setCells (w.heap.size + 1) 0 (copied s at')) (recAt s.data.toList at') := by
  have hlen := recAt_length s at' h
  have hsz : (s.extract at' s.size).size = s.size - at' := by rw [Lib.size_eq, Lib.extract_data, List.length_take, List.length_drop, ← Lib.size_eq]; omega
  have hc : ∀ j, j < 12 → (((w.alloc (.cells #[.int .i64 0, .int .i64 0, .int .i64 0, .int .i64 0, .int .i64 0] 27)).alloc (.cells #[.int .u8 0, .int .u8 0, .int .u8 0, .int .u8 0, .int .u8 0, .int .u8 0, .int .u8 0, .int .u8 0, .int .u8 0, .int .u8 0, .int .u8 0, .int .u8 0] 87)).cell? ⟨w.heap.size + 1, 0 + j, none⟩).isSome = true := by
    intro j hj
    rw [Nat.zero_add, World.cell?_alloc_at _ _ _ _ (by simp)]
    match j, hj with
    | 0, _ => rfl
    | 1, _ => rfl
    | 2, _ => rfl
    | 3, _ => rfl
    | 4, _ => rfl
    | 5, _ => rfl
    | 6, _ => rfl
    | 7, _ => rfl
    | 8, _ => rfl
    | 9, _ => rfl
    | 10, _ => rfl
    | 11, _ => rfl
  have hf : ∀ b o, w.heap.size ≤ b → ((w.alloc (.cells #[.int .i64 0, .int .i64 0, .int .i64 0, .int .i64 0, .int .i64 0] 27)).alloc (.cells #[.int .u8 0, .int .u8 0, .int .u8 0, .int .u8 0, .int .u8 0, .int .u8 0, .int .u8 0, .int .u8 0, .int .u8 0, .int .u8 0, .int .u8 0, .int .u8 0] 87)).frozen? ⟨b, o, none⟩ = false := by
    intro b o hb
    rw [frozen_cells, frozen_cells]
    unfold World.frozen?
    rw [Array.getElem?_eq_none hb]
  have hB : Below w.heap.size w ((w.alloc (.cells #[.int .i64 0, .int .i64 0, .int .i64 0, .int .i64 0, .int .i64 0] 27)).alloc (.cells #[.int .u8 0, .int .u8 0, .int .u8 0, .int .u8 0, .int .u8 0, .int .u8 0, .int .u8 0, .int .u8 0, .int .u8 0, .int .u8 0, .int .u8 0, .int .u8 0] 87)) := ((Below.refl _ _).alloc (Nat.le_refl _) _).alloc (by simp) _
  have hS : ((w.alloc (.cells #[.int .i64 0, .int .i64 0, .int .i64 0, .int .i64 0, .int .i64 0] 27)).alloc (.cells #[.int .u8 0, .int .u8 0, .int .u8 0, .int .u8 0, .int .u8 0, .int .u8 0, .int .u8 0, .int .u8 0, .int .u8 0, .int .u8 0, .int .u8 0, .int .u8 0] 87)).heap.size = w.heap.size + 2 := by simp
  have hres : ∀ j, j < 5 → ∃ v, ((w.alloc (.cells #[.int .i64 0, .int .i64 0, .int .i64 0, .int .i64 0, .int .i64 0] 27)).alloc (.cells #[.int .u8 0, .int .u8 0, .int .u8 0, .int .u8 0, .int .u8 0, .int .u8 0, .int .u8 0, .int .u8 0, .int .u8 0, .int .u8 0, .int .u8 0, .int .u8 0] 87)).cell? ⟨w.heap.size, j, none⟩ = some v := by
    intro j hj
    rw [World.cell?_alloc_past _ _ _ (by simp), World.cell?_alloc_at _ _ _ _ rfl]
    match j, hj with
    | 0, _ => exact ⟨_, rfl⟩
    | 1, _ => exact ⟨_, rfl⟩
    | 2, _ => exact ⟨_, rfl⟩
    | 3, _ => exact ⟨_, rfl⟩
    | 4, _ => exact ⟨_, rfl⟩
  generalize ((w.alloc (.cells #[.int .i64 0, .int .i64 0, .int .i64 0, .int .i64 0, .int .i64 0] 27)).alloc (.cells #[.int .u8 0, .int .u8 0, .int .u8 0, .int .u8 0, .int .u8 0, .int .u8 0, .int .u8 0, .int .u8 0, .int .u8 0, .int .u8 0, .int .u8 0, .int .u8 0] 87)) = V at *
  have hcl : (copied s at').length = 12 := by rw [copied_eq, List.length_map, hlen]
  refine ⟨run_copy_string_long V.drew 60 9 3 5 (w.heap.size + 1) 0 12 12 (s.extract at' s.size) Try.underlying60 (fun _ => by kernel_rfl) (by rw [hsz]; omega) hc (fun j hj => hf _ _ (by omega)), ?_⟩
  refine ⟨?_, ?_, ?_, ?_, ?_⟩
  · exact below_setCells' (by omega) _ _ _ hB.drew
  · have : (V.drew.setCells (w.heap.size + 1) 0 (copied s at')).heap.size = V.heap.size := size_setCells' _ _ _ _
    omega
  · intro i hi
    have hi2 : i < (copied s at').length := by rw [hcl]; omega
    rw [World.cell?_setCells_in (w.heap.size + 1) (copied s at') 0 V.drew (fun j hj => hc j (by omega)) i hi2]
    simp only [copied_eq, List.getElem_map]
  · intro j hj
    obtain ⟨v, hv⟩ := hres j hj
    exact ⟨v, by rw [World.cell?_setCells_out _ _ _ _ _ (fun e => by have : w.heap.size = w.heap.size + 1 := e; omega)]; exact hv⟩
  · intro j
    rw [World.frozen?_setCells]; exact hf _ _ (Nat.le_refl _)
end Go.Proofs.Ytpjcaanlagibpaa

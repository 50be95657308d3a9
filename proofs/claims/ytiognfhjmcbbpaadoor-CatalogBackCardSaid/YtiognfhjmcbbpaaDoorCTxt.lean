import Derived.Test.YtiognfhjmcbbpaaDoorCSt3
import Derived.Test.YtiognfhjmcbbpaaDoorShelf
import Derived.Deep.RegionHeld3
import Derived.Deep.CutRange
import Derived.Lib.ItoaLen
namespace Go.Proofs.YtiognfhjmcbbpaaDoor
open Go.RowKit
set_option linter.unusedSimpArgs false
set_option linter.unusedVariables false

/-! ## What is asked of the world, and the text of a use -/

structure Env (w : World) : Prop where
  alg : AlgAt w
  pow : Lib.TabIs Tryd.prog w "internal/strconv.uint64pow10" .u64 Lib.pow10Tab
theorem gpow : Tryd.prog.globalNamed "internal/strconv.uint64pow10" = some 5 := by kernel_rfl
theorem tab_below {w w' : World} {k : IntKind} {zs : List Int} (h : Lib.TabIs Tryd.prog w "internal/strconv.uint64pow10" k zs) (hb : Below w.heap.size w w') : Lib.TabIs Tryd.prog w' "internal/strconv.uint64pow10" k zs := by
  unfold Lib.TabIs at h ⊢
  unfold World.var? at h ⊢
  rw [gpow] at h ⊢
  simp only [Option.bind_some] at h ⊢
  have hs : 5 < w.heap.size := by
    by_cases h1 : 5 < w.heap.size
    · exact h1
    · rw [Array.getElem?_eq_none (by omega)] at h; simp at h
  rw [hb.block _ hs]
  exact h
theorem Env.below {w w' : World} (h : Env w) (hb : Below w.heap.size w w') : Env w' := ⟨h.alg.below hb, tab_below h.pow hb⟩
theorem below_grow (w : World) (k : Nat) (os : Array Obj) : Below w.heap.size w (Sort.grow (w.drewN k) os) := by
  refine ⟨rfl, rfl, rfl, ?_, fun i hi => ?_⟩
  · show w.heap.size ≤ (w.heap ++ os).size
    simp
  · show (w.heap ++ os)[i]? = w.heap[i]?
    rw [Array.getElem?_append_left hi]
theorem itoa_any (n : Int) (w : World) (hn : -9223372036854775808 ≤ n ∧ n ≤ 9223372036854775807) (he : Env w) :
    Calls Tryd.prog 44 #[.int .i64 n] w fun e w' => e = .returned (.string ⟨(Lib.itoa n).toArray⟩) ∧ Below w.heap.size w w' :=
  (Tryd.strconv_Itoa n hn.1 hn.2 w he.pow).mono fun e w' ⟨h1, k, os, h2⟩ => ⟨h1, by rw [h2]; exact below_grow w k os⟩

def dash : ByteArray := ⟨#[45]⟩
def dashed (a : ByteArray) (n : Int) : ByteArray := a ++ dash ++ ⟨(Lib.itoa n).toArray⟩
theorem row_short : ∀ k : Fin 23, (algRow k.val).1.size ≤ 20 := by decide +kernel
theorem name_short (a : Int) : (nameF a).size ≤ 20 := by
  unfold nameF
  split
  · exact row_short ⟨a.toNat, by omega⟩
  · decide
theorem itoa_short (n : Int) (hn : -9223372036854775808 ≤ n ∧ n ≤ 9223372036854775807) : (⟨(Lib.itoa n).toArray⟩ : ByteArray).size ≤ 21 := by
  have := Lib.itoa_length_le n hn.1 hn.2
  show (Lib.itoa n).toArray.size ≤ 21
  simpa using this
def textF (a b : Int) : ByteArray := if 0 < strF a b then (if b = 0 then nameF a else dashed (nameF a) b) else ⟨#[]⟩
set_option maxRecDepth 100000 in
set_option maxHeartbeats 2000000 in
theorem text_any (a b : Int) (w : World) (he : Env w) (hb : -9223372036854775808 ≤ b ∧ b ≤ 9223372036854775807) :
    Calls Tryd.prog 21 #[.agg #[.int .i64 a, .int .i64 b]] w fun e w' => e = .returned (.string (textF a b)) ∧ Below w.heap.size w w' := by
  have b0 : Below w.heap.size w (w.alloc (.cells #[.int .i64 a, .int .i64 b] 23)) := (Below.refl _ _).alloc (Nat.le_refl _) _
  have HV := Lib.hid (valid_any a b _ (he.alg.below b0))
  have HE := Lib.hid (fun (W : World) (hW : Below w.heap.size w W) => he.below hW)
  have HB0 := Lib.hid b0
  have HBN := Lib.hid hb
  unfold textF
  by_cases hp : 0 < strF a b
  · rw [if_pos hp]
    rw [decide_eq_true hp] at HV
    by_cases hz : b = 0
    · rw [if_pos hz]
      subst hz
      clear hp b0 he hb
      go_enter Tryd.func21, Tryd.ntmps21
      go_wp2_with fail
      have q0 : (w.alloc (.cells #[.int .i64 a, .int .i64 0] 23)).cell? ⟨w.heap.size, 0, none⟩ = some (.int .i64 a) := World.cell?_alloc_at _ _ _ _ rfl
      have q1 : (w.alloc (.cells #[.int .i64 a, .int .i64 0] 23)).cell? ⟨w.heap.size, 1, none⟩ = some (.int .i64 0) := World.cell?_alloc_at _ _ _ _ rfl
      have qs : w.heap.size < (w.alloc (.cells #[.int .i64 a, .int .i64 0] 23)).heap.size := by simp
      generalize w.alloc (.cells #[.int .i64 a, .int .i64 0] 23) = W1 at *
      refine HV.out.mono ?_
      rintro e w1 ⟨rfl, h1⟩
      have B1 := Lib.hid (HB0.out.trans (h1.mono HB0.out.size))
      have c0 := (h1.cell (p := ⟨w.heap.size, 0, none⟩) qs).trans q0
      have c1 := (h1.cell (p := ⟨w.heap.size, 1, none⟩) qs).trans q1
      clear h1 q0 q1 qs
      go_wp2_with fail
      refine (name_any a w1 (HE.out w1 B1.out).alg).mono ?_
      rintro e w2 ⟨rfl, rfl⟩
      go_wp2_with fail
      go_ret
      exact ⟨rfl, B1.out⟩
    · rw [if_neg hz]
      have HNM := Lib.hid (fun W (hW : AlgAt W) => name_any a W hW)
      have HIT := Lib.hid (fun W (hW : Env W) => itoa_any b W HBN.out hW)
      have n1 := name_short a
      have n2 := itoa_short b HBN.out
      unfold dashed
      generalize nameF a = nm at *
      generalize (⟨(Lib.itoa b).toArray⟩ : ByteArray) = it at *
      have n3 : nm.size + 1 ≤ 9223372036854775807 := by omega
      have n5 : (nm ++ dash).size = nm.size + 1 := by rw [ByteArray.size_append]; rfl
      have n4 : (nm ++ dash).size + it.size ≤ 9223372036854775807 := by omega
      have n3b : ¬ 9223372036854775807 < nm.size + 1 := by omega
      have n4b : ¬ 9223372036854775807 < (nm ++ (⟨#[45]⟩ : ByteArray)).size + it.size := by have : (nm ++ (⟨#[45]⟩ : ByteArray)).size = nm.size + 1 := n5; omega
      have n4c : ¬ 9223372036854775807 < nm.size + 1 + it.size := by omega
      unfold dash at n4 n5 ⊢
      clear n1 n2 n5
      clear hp b0 he hb
      go_enter Tryd.func21, Tryd.ntmps21
      go_wp2_with fail
      have q0 : (w.alloc (.cells #[.int .i64 a, .int .i64 b] 23)).cell? ⟨w.heap.size, 0, none⟩ = some (.int .i64 a) := World.cell?_alloc_at _ _ _ _ rfl
      have q1 : (w.alloc (.cells #[.int .i64 a, .int .i64 b] 23)).cell? ⟨w.heap.size, 1, none⟩ = some (.int .i64 b) := World.cell?_alloc_at _ _ _ _ rfl
      have qs : w.heap.size < (w.alloc (.cells #[.int .i64 a, .int .i64 b] 23)).heap.size := by simp
      generalize w.alloc (.cells #[.int .i64 a, .int .i64 b] 23) = W1 at *
      refine HV.out.mono ?_
      rintro e w1 ⟨rfl, h1⟩
      have B1 := Lib.hid (HB0.out.trans (h1.mono HB0.out.size))
      have c0 := (h1.cell (p := ⟨w.heap.size, 0, none⟩) qs).trans q0
      have c1 := (h1.cell (p := ⟨w.heap.size, 1, none⟩) qs).trans q1
      have hs1 : w.heap.size < w1.heap.size := Nat.lt_of_lt_of_le qs h1.size
      have HC := Lib.hid (fun (W : World) (hW : Below w1.heap.size w1 W) => show W.cell? ⟨w.heap.size, 0, none⟩ = some (.int .i64 a) ∧ W.cell? ⟨w.heap.size, 1, none⟩ = some (.int .i64 b) from ⟨(hW.cell (p := ⟨w.heap.size, 0, none⟩) hs1).trans c0, (hW.cell (p := ⟨w.heap.size, 1, none⟩) hs1).trans c1⟩)
      clear h1 q0 q1 qs hs1
      go_wp2_with fail
      clear c0 c1
      have BD := Lib.hid (show Below w1.heap.size w1 w1.drew from ⟨rfl, rfl, rfl, Nat.le_refl _, fun _ _ => rfl⟩)
      go_region_held3 (fun W => W.cell? ⟨w.heap.size, 0, none⟩ = some (.int .i64 a) ∧ W.cell? ⟨w.heap.size, 1, none⟩ = some (.int .i64 b)) (first | exact HC.out _ BD.out | exact HC.out _ BE.out)
        (first
          | (go_simp; go_at_call 13; refine (HNM.out _ (HE.out _ (B1.out.trans (BD.out.mono B1.out.size))).alg).mono ?_; rintro e w2 ⟨rfl, rfl⟩)
          | (go_simp; go_at_call 44; refine (HIT.out _ (HE.out _ (B1.out.trans (BD.out.mono B1.out.size)))).mono ?_; rintro e w3 ⟨rfl, h3⟩; have BE := Lib.hid (BD.out.trans (h3.mono BD.out.size)); clear h3))
      go_wp2_with fail
      go_ret
      exact ⟨rfl, B1.out.trans (BE.out.mono B1.out.size)⟩
  · rw [if_neg hp]
    rw [decide_eq_false hp] at HV
    clear hp b0 he hb
    go_enter Tryd.func21, Tryd.ntmps21
    go_wp2_with fail
    refine HV.out.mono ?_
    rintro e w1 ⟨rfl, h1⟩
    have B1 := Lib.hid (HB0.out.trans (h1.mono HB0.out.size))
    clear h1
    go_wp2_with fail
    go_ret
    exact ⟨rfl, B1.out⟩
end Go.Proofs.YtiognfhjmcbbpaaDoor

import Derived.Test.YtpjcaanlagibpaaAdd
import Derived.Test.YtpjcaanlagibpaaReads
namespace Go.Proofs.Ytpjcaanlagibpaa
open Go.RowKit
set_option linter.unusedSimpArgs false
set_option linter.unusedVariables false

set_option maxRecDepth 100000 in
set_option maxHeartbeats 4000000 in
theorem crash_any (s torn : ByteArray) (k : Nat) (w : World) (hs : s.size ≤ 1000000) (ht : torn.size ≤ 1000000) (hk : k ≤ s.size) :
    Calls Try.prog 44 #[.string s, .int .i64 k, .string torn] w fun e w' => e = .returned (.string (s.extract 0 k ++ torn)) ∧ Below w.heap.size w w' := by
  have h1 : (s.size : Int) ≤ 1000000 := by omega
  have h2 : (torn.size : Int) ≤ 1000000 := by omega
  have h3 : (k : Int) ≤ (s.size : Int) := by omega
  have h4 : min (k : Int) (s.size : Int) = (k : Int) := by omega
  go_enter Try.func44, Try.ntmps44
  go_wp2_with fail
  go_ret
  exact ⟨rfl, Below.refl _ _⟩

set_option maxRecDepth 100000 in
set_option maxHeartbeats 4000000 in
theorem jappend_nat (l : List UInt8) (a k c s x : Nat) (w : World) (h : Dec.ok ⟨a, k, c, s, x⟩ = true) (hl : l.length + 12 ≤ 65536) :
    Calls Try.prog 42 #[.string ⟨l.toArray⟩, Dec.val ⟨a, k, c, s, x⟩] w fun e w' => e = .returned (.tuple #[.string ⟨(l ++ recBytes a k c s x).toArray⟩, .int .i64 0]) ∧ Below w.heap.size w w' := by
  have HE := Lib.hid (fun w1 => encode_ok a k c s x w1 h)
  have hr : (recBytes a k c s x).length = 12 := by simp [recBytes, bytesOf]
  have hA := add_lists' l (recBytes a k c s x) _ rfl (by omega) (by omega)
  have hs1 : (⟨l.toArray⟩ : ByteArray).size = l.length := by show l.toArray.size = _; simp
  have hs2 : (⟨(recBytes a k c s x).toArray⟩ : ByteArray).size = 12 := by show (recBytes a k c s x).toArray.size = _; simp [hr]
  have hli : ((⟨l.toArray⟩ : ByteArray).size : Int) ≤ 65524 := by rw [hs1]; omega
  clear hs1 hs2 hr hl
  generalize (⟨(l ++ recBytes a k c s x).toArray⟩ : ByteArray) = SR at *
  generalize (⟨(recBytes a k c s x).toArray⟩ : ByteArray) = R at *
  generalize (⟨l.toArray⟩ : ByteArray) = S at *
  unfold Dec.val
  go_enter Try.func42, Try.ntmps42
  clear h
  have HA := Lib.hid hA
  clear hA
  have hgt : ¬ ((65536 : Int) < (S.size : Int) + 12) := by omega
  go_wp2_with fail
  refine (HE.out _).mono ?_
  rintro e w1 ⟨rfl, hb1⟩
  clear HE
  have hbw : Below w.heap.size w w1 := ((Below.refl _ _).alloc (Nat.le_refl _) _).trans (hb1.mono (by simp))
  clear hb1
  have hdec : decide ((65536 : Int) < wrap64 ((S.size : Int) + 12)) = false := decide_eq_false (by unfold wrap64; omega)
  have hA := HA.out
  obtain ⟨z, hz⟩ : ∃ z : Int, wrap64 ((S.size : Int) + 12) = z := ⟨_, rfl⟩
  rw [hz] at hdec
  clear hli hgt HA
  go_wp2
  go_ret2
  exact ⟨rfl, hbw⟩

theorem jappend_ok (l : List UInt8) (d : Dec) (w : World) (h : d.ok = true) (hl : l.length + 12 ≤ 65536) :
    Calls Try.prog 42 #[.string ⟨l.toArray⟩, d.val] w fun e w' => e = .returned (.tuple #[.string ⟨(l ++ recOf d).toArray⟩, .int .i64 0]) ∧ Below w.heap.size w w' := by
  have hn := d.nats h
  unfold recOf
  rw [hn] at h ⊢
  exact jappend_nat l _ _ _ _ _ w h hl

/-- the variables of Replay -/
structure RepSt (w W : World) (B g : Nat) (v : Value) (ds pre : List Dec) : Prop where
  below : Below w.heap.size w W
  res : ∃ u, W.cell? ⟨w.heap.size, 0, none⟩ = some u
  rfree : W.frozen? ⟨w.heap.size, 0, none⟩ = false
  cell : W.cell? ⟨B, 0, none⟩ = some v
  free : W.frozen? ⟨B, 0, none⟩ = false
  decs : DecsAt W g 0 ds
  own : OwnDecs W (w.heap.size + 1) v pre
  sizeB : B < W.heap.size
  sizeg : g < W.heap.size
  far : g ≠ B
  near : w.heap.size < B

theorem RepSt.mono {w W W' : World} {B g : Nat} {v : Value} {ds pre : List Dec} (h : RepSt w W B g v ds pre) (hb : Below W.heap.size W W') : RepSt w W' B g v ds pre := by
  have hB := h.sizeB
  have hn := h.near
  refine ⟨h.below.trans (hb.mono h.below.size), ?_, ?_, ?_, ?_, h.decs.below h.sizeg hb, OwnDecs.below h.own hb, Nat.lt_of_lt_of_le hB hb.size, Nat.lt_of_lt_of_le h.sizeg hb.size, h.far, h.near⟩
  · obtain ⟨u, hu⟩ := h.res
    exact ⟨u, (hb.cell (p := ⟨w.heap.size, 0, none⟩) (by show w.heap.size < _; omega)).trans hu⟩
  · exact (hb.frozen (p := ⟨w.heap.size, 0, none⟩) (by show w.heap.size < _; omega)).trans h.rfree
  · exact (hb.cell (p := ⟨B, 0, none⟩) hB).trans h.cell
  · exact (hb.frozen (p := ⟨B, 0, none⟩) hB).trans h.free

theorem RepSt.store {w W W' : World} {B g : Nat} {v v' : Value} {ds pre pre' : List Dec} (h : RepSt w W B g v ds pre) (hb : Below W.heap.size W W') (hO : OwnDecs W' W.heap.size v' pre') : RepSt w (W'.setCell ⟨B, 0, none⟩ v') B g v' ds pre' := by
  have hm := h.mono hb
  have hB := h.sizeB
  have hn := h.near
  refine ⟨hm.below.setCell (by show w.heap.size ≤ B; omega) _, ?_, by rw [World.frozen?_setCell]; exact hm.rfree, World.cell?_setCell_same _ _ _ hm.cell, by rw [World.frozen?_setCell]; exact hm.free, ?_, ?_, by rw [World.size_setCell]; exact hm.sizeB, by rw [World.size_setCell]; exact hm.sizeg, h.far, h.near⟩
  · obtain ⟨u, hu⟩ := hm.res
    exact ⟨u, by rw [World.cell?_setCell_far _ _ _ _ (by show B ≠ w.heap.size; omega)]; exact hu⟩
  · intro i hi
    refine (hm.decs i hi).of_cells fun o => ?_
    rw [World.cell?_setCell_far _ _ _ _ (by show B ≠ g; exact fun e => h.far e.symm)]
  · exact hO.kept' (by omega) fun k hk _ => Below.heap_setCell _ _ _ _ (by show k ≠ B; omega)

set_option maxRecDepth 100000 in
set_option maxHeartbeats 4000000 in
theorem replay_some (s : ByteArray) (ds : List Dec) (w : World) (h : Reads s ds) (hok : OKs ds) (hl : ds.length ≤ 100) (h0 : 0 < ds.length) :
    Calls Try.prog 48 #[.string s] w fun e w' => ∃ v : Value, e = .returned (.tuple #[.agg #[v], .int .i64 ds.length]) ∧ SliceDecs w' v ds ∧ Below w.heap.size w w' := by
  have hli : (ds.length : Int) ≤ 100 := by omega
  have HO := Lib.hid (fun w1 => open_any s ds w1 h)
  have HOK := Lib.hid hok
  clear h hok
  go_enter Try.func48, Try.ntmps48
  go_wp2_with fail
  refine (HO.out _).mono ?_
  rintro e w1 ⟨v1, rfl, hO1, hb1⟩
  rcases hO1.cases with ⟨_, h2⟩ | ⟨g, cap, rfl, hge, hg, hcap, hd⟩
  · rw [h2] at h0; simp at h0
  have hc1 : w1.cell? ⟨w.heap.size, 0, none⟩ = some (.slice none 0 0) := by
    rw [hb1.cell (p := ⟨w.heap.size, 0, none⟩) (by simp)]; exact World.cell?_alloc_at _ _ _ _ (by simp)
  have hf1 : w1.frozen? ⟨w.heap.size, 0, none⟩ = false := by
    rw [hb1.frozen (p := ⟨w.heap.size, 0, none⟩) (by simp), frozen?_alloc_cells]; exact frozen_beyond _ _ _ (by omega)
  have hz1 : w.heap.size + 1 ≤ w1.heap.size := by have := hb1.size; simp at this; exact this
  have hbw : Below w.heap.size w w1 := ((Below.refl _ _).alloc (Nat.le_refl _) _).trans (hb1.mono (by simp))
  have hst : RepSt w (w1.alloc (.cells #[.slice none 0 0] 25)) w1.heap.size g (.slice none 0 0) ds [] := by
    refine ⟨hbw.alloc hbw.size _, ⟨.slice none 0 0, ?_⟩, ?_, World.cell?_alloc_at _ _ _ _ (by simp), ?_, ?_, ⟨rfl, .inl ⟨rfl, rfl⟩⟩, by simp, by simp; omega, by omega, by omega⟩
    · rw [World.cell?_alloc_past _ _ _ (by omega)]; exact hc1
    · rw [frozen?_alloc_cells]; exact hf1
    · rw [frozen?_alloc_cells]; exact frozen_beyond _ _ _ (by omega)
    · exact hd.below hg ((Below.refl _ _).alloc (Nat.le_refl _) _)
  have HST := Lib.hid hst
  clear hst hc1 hf1 hz1 hbw hd hb1 hO1 hge
  go_wp2_with fail
  generalize w1.heap.size = B at *
  generalize w1.alloc (.cells #[.slice none 0 0] 25) = W1 at *
  go_loopw [8, 16] (fun _ i wr => ∃ (k : Nat) (v : Value), k ≤ ds.length ∧ i = .int .i64 k ∧ RepSt w wr B g v ds (ds.take k)) (fun _ i _ => ds.length - (intOf i).toNat)
  case atStart => exact ⟨0, _, Nat.zero_le _, rfl, HST.out⟩
  case round =>
    obtain ⟨k, v, hk, rfl, hst⟩ := hrel
    by_cases hlt : k < ds.length
    · obtain ⟨c0, c1, c2, c3, c4⟩ := hst.decs k hlt
      simp only [Nat.zero_add] at c0 c1 c2 c3 c4
      have hlti : (k : Int) < (ds.length : Int) := by omega
      have hgw := hst.sizeg
      have hcB := hst.cell
      have hfB := hst.free
      have hbz := hst.sizeB
      have hTk : ds.take k ++ [ds[k]] = ds.take (k + 1) := (take_snoc_dec ds k hlt).symm
      have hA := Lib.hid (fun w1 h1 => add_ok v (ds.take k) ds[k] w1 h1 (by simp; omega) (fun i hi => by have h2 := HOK.out i (by simp at hi; omega); rw [List.take_take, Nat.min_eq_left (by simp at hi; omega), List.getElem_take]; exact h2) (HOK.out k hlt))
      rw [hTk] at hA
      have hst2 := hst.mono ((Below.refl _ _).alloc (Nat.le_refl _) (.cells #[.int .i64 ds[k].day, .int .i64 ds[k].known, .int .i64 ds[k].kind, .int .i64 ds[k].subject, .int .i64 ds[k].value] 27))
      have HS2 := Lib.hid hst2
      obtain ⟨av, nv, mv, rfl⟩ := OwnDecs.slice_val hst.own
      clear hst hst2 HST
      generalize hd : ds[k] = d at *
      unfold Dec.val at hA
      clear hd hTk
      go_wp2_with fail
      refine (hA.out _ (OwnDecs.slice HS2.out.own)).mono ?_
      rintro e w5 ⟨v5, rfl, hO5, hb5⟩
      have hm5 := HS2.out.mono hb5
      have hc5 := hm5.cell
      have hf5 := hm5.free
      have hN := Lib.hid (HS2.out.store hb5 hO5)
      obtain ⟨a5, n5, m5, rfl⟩ := hO5.slice_val
      clear hm5 hb5 hO5 HS2 hA
      go_wp2_with fail
      exact ⟨⟨k + 1, _, by omega, by go_num, hN.out⟩, by simp [intOf]; omega⟩
    · have hkk : k = ds.length := by omega
      subst hkk
      rw [List.take_length] at hst
      obtain ⟨u0, hu0⟩ := hst.res
      have hf0 := hst.rfree
      have hcB := hst.cell
      have hfB := hst.free
      obtain ⟨av, nv, mv, rfl⟩ := OwnDecs.slice_val hst.own
      have HN := Lib.hid hst
      clear hst HST
      go_wp2_with fail
      have hn := HN.out.near
      have hq : World.cell? (wr.setCell ⟨w.heap.size, 0, none⟩ (.slice av nv mv)) ⟨w.heap.size, 0, none⟩ = some (.slice av nv mv) := World.cell?_setCell_same _ _ _ hu0
      have hB : Below w.heap.size w (wr.setCell ⟨w.heap.size, 0, none⟩ (.slice av nv mv)) := HN.out.below.setCell (Nat.le_refl _) _
      have hO : OwnDecs (wr.setCell ⟨w.heap.size, 0, none⟩ (.slice av nv mv)) (w.heap.size + 1) (.slice av nv mv) ds := OwnDecs.kept HN.out.own fun k hk _ => Below.heap_setCell _ _ _ _ (by show k ≠ w.heap.size; omega)
      exact bodyPost_ret (v := .tuple #[.agg #[.slice av nv mv], .int .i64 ds.length]) (by simp [results, Try.results48, go_sem, hq]) rfl ⟨_, rfl, hO.slice, hB⟩

theorem replay_none (s : ByteArray) (w : World) (h : Reads s []) :
    Calls Try.prog 48 #[.string s] w fun e w' => ∃ v : Value, e = .returned (.tuple #[.agg #[v], .int .i64 0]) ∧ SliceDecs w' v [] ∧ Below w.heap.size w w' := by
  have HO := Lib.hid (fun w1 => open_any s [] w1 h)
  clear h
  go_enter Try.func48, Try.ntmps48
  go_wp2_with fail
  refine (HO.out _).mono ?_
  rintro e w1 ⟨v1, rfl, hO1, hb1⟩
  obtain ⟨a4, c4, rfl⟩ : ∃ a4 c4, v1 = .slice a4 0 c4 := by
    rcases hO1.cases with ⟨h1, _⟩ | ⟨g, cap, h1, _⟩
    · exact ⟨_, _, h1⟩
    · exact ⟨_, _, h1⟩
  have hc1 : w1.cell? ⟨w.heap.size, 0, none⟩ = some (.slice none 0 0) := by
    rw [hb1.cell (p := ⟨w.heap.size, 0, none⟩) (by simp)]; exact World.cell?_alloc_at _ _ _ _ (by simp)
  have hf1 : w1.frozen? ⟨w.heap.size, 0, none⟩ = false := by
    rw [hb1.frozen (p := ⟨w.heap.size, 0, none⟩) (by simp), frozen?_alloc_cells]; exact frozen_beyond _ _ _ (by omega)
  have hz1 : w.heap.size + 1 ≤ w1.heap.size := by have := hb1.size; simp at this; exact this
  have hbw : Below w.heap.size w w1 := ((Below.refl _ _).alloc (Nat.le_refl _) _).trans (hb1.mono (by simp))
  have hlt : w.heap.size < w1.heap.size := by omega
  have hc2 : (w1.alloc (.cells #[.slice none 0 0] 25)).cell? ⟨w.heap.size, 0, none⟩ = some (.slice none 0 0) := by rw [World.cell?_alloc_past _ _ _ hlt]; exact hc1
  have hf2 : (w1.alloc (.cells #[.slice none 0 0] 25)).frozen? ⟨w.heap.size, 0, none⟩ = false := by rw [frozen?_alloc_cells]; exact hf1
  have hc3 : (w1.alloc (.cells #[.slice none 0 0] 25)).cell? ⟨w1.heap.size, 0, none⟩ = some (.slice none 0 0) := World.cell?_alloc_at _ _ _ _ (by simp)
  have hbw2 : Below w.heap.size w (w1.alloc (.cells #[.slice none 0 0] 25)) := hbw.alloc hbw.size _
  clear hO1 hb1 hc1 hf1 hbw
  go_wp2_with fail
  generalize w1.alloc (.cells #[.slice none 0 0] 25) = W1 at *
  refine wp_loop_rounds 1 ?_
  rw [rounds_succ]
  go_wp2_with fail
  have hq : World.cell? (W1.setCell ⟨w.heap.size, 0, none⟩ (.slice none 0 0)) ⟨w.heap.size, 0, none⟩ = some (.slice none 0 0) := World.cell?_setCell_same _ _ _ hc2
  exact bodyPost_ret (v := .tuple #[.agg #[.slice none 0 0], .int .i64 0]) (by simp [results, Try.results48, go_sem, hq]) rfl ⟨_, rfl, .inl ⟨rfl, rfl⟩, hbw2.setCell (Nat.le_refl _) _⟩

theorem replay_any (s : ByteArray) (ds : List Dec) (w : World) (h : Reads s ds) (hok : OKs ds) (hl : ds.length ≤ 100) :
    Calls Try.prog 48 #[.string s] w fun e w' => ∃ v : Value, e = .returned (.tuple #[.agg #[v], .int .i64 ds.length]) ∧ SliceDecs w' v ds ∧ Below w.heap.size w w' := by
  cases ds with
  | nil => exact replay_none s w h
  | cons d ds => exact replay_some s (d :: ds) w h hok hl (by simp)
end Go.Proofs.Ytpjcaanlagibpaa

import Derived.Test.YtpjcaanlagibpaaRefE
import Derived.LoopN
namespace Go.Proofs.Ytpjcaanlagibpaa
open Go.RowKit
set_option linter.unusedSimpArgs false
set_option linter.unusedVariables false

/-- a slice of decisions in memory -/
def SliceDecs (w : World) (v : Value) (ds : List Dec) : Prop :=
  (v = .slice none 0 0 ∧ ds = []) ∨ ∃ g cap, v = .slice (some ⟨g, 0, none⟩) ds.length cap ∧ g < w.heap.size ∧ ds.length ≤ cap ∧ DecsAt w g 0 ds

theorem OwnDecs.slice {w : World} {base : Nat} {v : Value} {ds : List Dec} (h : OwnDecs w base v ds) : SliceDecs w v ds := by
  rcases h.cases with ⟨h1, h2⟩ | ⟨g, cap, h1, _, h2, h3, h4⟩
  · exact .inl ⟨h1, h2⟩
  · exact .inr ⟨g, cap, h1, h2, h3, h4⟩

theorem DecsAt.below {w w' : World} {g : Nat} {ds : List Dec} (h : DecsAt w g 0 ds) (hg : g < w.heap.size) (hb : Below w.heap.size w w') : DecsAt w' g 0 ds :=
  fun i hi => (h i hi).of_cells (fun o => hb.cell (p := ⟨g, o, none⟩) hg)

theorem SliceDecs.below {w w' : World} {v : Value} {ds : List Dec} (h : SliceDecs w v ds) (hb : Below w.heap.size w w') : SliceDecs w' v ds := by
  rcases h with h | ⟨g, cap, hv, hg, hc, hd⟩
  · exact .inl h
  · exact .inr ⟨g, cap, hv, Nat.lt_of_lt_of_le hg hb.size, hc, hd.below hg hb⟩

/-- the bytes of a decision -/
def recOf (d : Dec) : List UInt8 := recBytes d.day.toNat d.known.toNat d.kind.toNat d.subject.toNat d.value.toNat
def recsOf (ds : List Dec) : List UInt8 := ds.flatMap recOf
theorem recOf_length (d : Dec) : (recOf d).length = 12 := by simp [recOf, recBytes, bytesOf]
theorem recsOf_length (ds : List Dec) : (recsOf ds).length = 12 * ds.length := by
  induction ds with
  | nil => rfl
  | cons d ds ih => simp only [recsOf, List.flatMap_cons, List.length_append] at ih ⊢; rw [ih, recOf_length]; simp; omega
theorem recsOf_snoc (ds : List Dec) (d : Dec) : recsOf (ds ++ [d]) = recsOf ds ++ recOf d := by simp [recsOf]

theorem Dec.nats (d : Dec) (h : d.ok = true) : d = ⟨d.day.toNat, d.known.toNat, d.kind.toNat, d.subject.toNat, d.value.toNat⟩ := by
  have := (ok_iff d).1 h
  obtain ⟨a, k, c, s, x⟩ := d
  simp only at this
  simp only [Dec.mk.injEq]
  omega

theorem refappend_any (l : List UInt8) (d : Dec) (w : World) (h : d.ok = true) (hl : l.length + 12 ≤ 65536) :
    Calls Try.prog 43 #[.string ⟨l.toArray⟩, d.val] w fun e w' => e = .returned (.tuple #[.string ⟨(l ++ recOf d).toArray⟩, .int .i64 0]) ∧ Below w.heap.size w w' := by
  have hn := d.nats h
  unfold recOf
  rw [hn] at h ⊢
  exact refappend_ok l _ _ _ _ _ w h hl

theorem take_snoc_dec (ds : List Dec) (k : Nat) (h : k < ds.length) : ds.take (k + 1) = ds.take k ++ [ds[k]] := List.take_succ_eq_append_getElem h

set_option maxRecDepth 100000 in
set_option maxHeartbeats 4000000 in
theorem written_some (g cap : Nat) (ds : List Dec) (w : World) (hg : g < w.heap.size) (hd : DecsAt w g 0 ds) (hok : ∀ d ∈ ds, d.ok = true) (hl : ds.length ≤ 1000) :
    Calls Try.prog 39 #[.agg #[.slice (some ⟨g, 0, none⟩) ds.length cap]] w fun e w' => e = .returned (.string ⟨(recsOf ds).toArray⟩) ∧ Below w.heap.size w w' := by
  have hli : (ds.length : Int) ≤ 1000 := by omega
  have HD := Lib.hid hd
  have HOK := Lib.hid hok
  clear hd hok
  go_enter Try.func39, Try.ntmps39
  go_wp2_with fail
  go_loopw [3, 5, 9] (fun s _ i wr => ∃ k : Nat, k ≤ ds.length ∧ i = .int .i64 k ∧ s = .string ⟨(recsOf (ds.take k)).toArray⟩ ∧ Below w.heap.size w wr) (fun _ _ i _ => ds.length - (intOf i).toNat)
  case atStart => exact ⟨0, Nat.zero_le _, rfl, rfl, (Below.refl _ _).alloc (Nat.le_refl _) _⟩
  case round =>
    obtain ⟨k, hk, rfl, rfl, hbe⟩ := hrel
    by_cases hlt : k < ds.length
    · obtain ⟨c0, c1, c2, c3, c4⟩ := (HD.out k hlt).of_cells (w' := wr) (fun o => hbe.cell (p := ⟨g, o, none⟩) hg)
      simp only [Nat.zero_add] at c0 c1 c2 c3 c4
      have hsz := hbe.size
      have hlti : (k : Int) < (ds.length : Int) := by omega
      have hgw : g < wr.heap.size := by omega
      have hA := Lib.hid (fun w1 => refappend_any (recsOf (ds.take k)) ds[k] w1 (HOK.out _ (List.getElem_mem _)) (by rw [recsOf_length]; simp; omega))
      have hT : recsOf (ds.take k) ++ recOf ds[k] = recsOf (ds.take (k + 1)) := by rw [take_snoc_dec ds k hlt, recsOf_snoc]
      have HT := Lib.hid hT
      have HB := Lib.hid hbe
      clear hT hbe
      generalize (⟨(recsOf (ds.take k)).toArray⟩ : ByteArray) = S at *
      go_wp2_with (go_at_call 43; refine (hA.out _).mono ?_; rintro e w1 ⟨rfl, hb1⟩)
      go_roundw
      case rel => exact ⟨k + 1, by omega, by go_num, by rw [HT.out], HB.out.trans ((((Below.refl _ _).alloc (Nat.le_refl _) _).trans (hb1.mono (by simp))).mono HB.out.size)⟩
      case measure => simp [intOf]; omega
    · have hkk : k = ds.length := by omega
      have HT := Lib.hid (show recsOf (ds.take k) = recsOf ds from by rw [hkk, List.take_length])
      have HB := Lib.hid hbe
      clear hbe hkk
      generalize recsOf (ds.take k) = R at *
      go_wp2_with fail
      go_ret
      exact ⟨congrArg (fun l : List UInt8 => Ending.returned (.string ⟨l.toArray⟩)) HT.out, HB.out⟩

theorem written_none (w : World) :
    Calls Try.prog 39 #[.agg #[.slice none 0 0]] w fun e w' => e = .returned (.string ByteArray.empty) ∧ Below w.heap.size w w' := by
  go_enter Try.func39, Try.ntmps39
  go_wp2_with fail
  refine wp_loop_rounds 1 ?_
  rw [rounds_succ]
  go_wp2_with fail
  go_ret
  exact ⟨rfl, (Below.refl _ _).alloc (Nat.le_refl _) _⟩

theorem written_any (v : Value) (ds : List Dec) (w : World) (h : SliceDecs w v ds) (hok : ∀ d ∈ ds, d.ok = true) (hl : ds.length ≤ 1000) :
    Calls Try.prog 39 #[.agg #[v]] w fun e w' => e = .returned (.string ⟨(recsOf ds).toArray⟩) ∧ Below w.heap.size w w' := by
  rcases h with ⟨rfl, rfl⟩ | ⟨g, cap, rfl, hg, hc, hd⟩
  · exact written_none w
  · exact written_some g cap ds w hg hd hok hl
end Go.Proofs.Ytpjcaanlagibpaa

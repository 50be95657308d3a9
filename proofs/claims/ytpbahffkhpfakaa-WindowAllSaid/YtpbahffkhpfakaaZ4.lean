import Derived.Test.YtpbahffkhpfakaaRLdZ
import Derived.Test.YtpbahffkhpfakaaWFitZ
import Derived.Laws.CopyRow
namespace Go.Proofs.Ytpbahffkhpfakaa
open Go.RowKit
set_option linter.unusedSimpArgs false
set_option linter.unusedVariables false

/-! ## window.Load: the counts as rows -/

section
variable {s nr : Nat} {w w' : World} {v : Value} {gs : List Nat} {F : Nat → Nat → Int}
/-- one row more, whatever it holds -/
theorem Out2.add (h : Out2 s w v gs nr F) (f : Nat → Int) (ty : TypeId) (hs : s ≤ w.heap.size) (hl : gs.length ≤ 100) :
    ∃ v' w', (Builtin.append_ #[45, 45] ty #[v, .slice (some ⟨w.heap.size + 1, 0, none⟩) 1 1]).run Try.prog ((w.alloc (.cells (nums nr f).toArray 3)).alloc (.cells #[rowV nr w.heap.size] 22)) = .ok v' w' ∧ Out2 s w' v' (gs ++ [w.heap.size]) nr (fun j => if j = gs.length then f else F j) ∧ Below s w w' := by
  have hi := infoRow
  cases hq : Try.prog.info? 22 with
  | none => simp [hq] at hi
  | some i =>
    rw [hq] at hi
    simp only [Option.map_some, Option.some.injEq, Prod.mk.injEq] at hi
    obtain ⟨hz, hsz, hby⟩ := hi
    have b1 := Below.alloc1 w (.cells (nums nr f).toArray 3)
    have s1 : (w.alloc (.cells (nums nr f).toArray 3)).heap.size = w.heap.size + 1 := by simp
    have n1 := heap_new w (.cells (nums nr f).toArray 3 (0, 0))
    have h1 := h.below b1
    generalize w.alloc (.cells (nums nr f).toArray 3) = w1 at *
    have b2 := Below.alloc1 w1 (.cells #[rowV nr w.heap.size] 22)
    have c2 : (w1.alloc (.cells #[rowV nr w.heap.size] 22)).cell? ⟨w.heap.size + 1, 0, none⟩ = some (rowV nr w.heap.size) := by rw [← s1]; exact World.cell?_alloc_at _ _ _ _ rfl
    have h2 := h1.below b2
    have n2 := (b2.block w.heap.size (by omega)).trans n1
    have s2 : (w1.alloc (.cells #[rowV nr w.heap.size] 22)).heap.size = w.heap.size + 1 + 1 := by simp [s1]
    generalize w1.alloc (.cells #[rowV nr w.heap.size] 22) = w2 at *
    obtain ⟨v', w', k1, k2, k3, _⟩ := run_append_own (P := Try.prog) w2 s 45 ty 22 i (.slice none 0 0) 1 24 undRows hq hz hsz hby rfl (by decide) v gs.length (gs.map (rowV nr)) h2.own ⟨w.heap.size + 1, 0, none⟩ 1 1 [rowV nr w.heap.size] rfl (by
      intro j u hu
      have hj : j = 0 := by
        have := (List.getElem?_eq_some_iff.1 hu).1
        simpa using this
      subst hj
      rw [← hu]
      exact c2) (by
      intro u hu
      rw [List.mem_singleton] at hu
      subst hu
      rfl) (by unfold maxLen; omega) (by omega) (by omega)
    have hkeep : ∀ g, g < w2.heap.size → (∃ cur, w2.heap[g]? = some (.cells cur 3 (0, 0))) → w'.heap[g]? = w2.heap[g]? := fun g hg ⟨cur, hc⟩ => k3.block g hg (fun e => own_ne h2.own hc (by decide) e.symm)
    have hlt : ∀ g ∈ gs, g < w.heap.size := fun g hg => by
      obtain ⟨j, hj, rfl⟩ := List.getElem_of_mem hg
      exact (Array.getElem?_eq_some_iff.1 (h.rows j hj)).1
    refine ⟨v', w', k1, ⟨?_, fun j hj => ?_, fun g hg => ?_, ?_⟩, ?_⟩
    · rw [List.length_append, List.map_append]
      exact k2
    · by_cases e : j < gs.length
      · rw [List.getElem_append_left e, if_neg (by omega)]
        exact (hkeep _ (Array.getElem?_eq_some_iff.1 (h2.rows j e)).1 ⟨_, h2.rows j e⟩).trans (h2.rows j e)
      · have ej : j = gs.length := by simp at hj; omega
        subst ej
        rw [List.getElem_append_right (Nat.le_refl _)]
        simp only [Nat.sub_self, List.getElem_cons_zero, if_pos]
        exact (hkeep _ (by omega) ⟨_, n2⟩).trans n2
    · rcases List.mem_append.1 hg with hg | hg
      · exact h.ge g hg
      · rw [List.mem_singleton] at hg
        omega
    · rw [List.nodup_append]
      refine ⟨h.nodup, by simp, fun a ha b hb => ?_⟩
      rw [List.mem_singleton] at hb
      have := hlt a ha
      omega
    · exact ((b1.mono hs).trans (b2.mono (by omega))).grown k3 (by omega) fun k hk => (World.ownsRow.lt h2.own k hk).1
end
theorem run_copy_counts (W : World) (bl o nr : Nat) (f : Nat → Int) (hr : nr ≤ 8) (ho : o + 8 ≤ 256) (hc : Counts W bl 0 256 f) (hb : bl < W.heap.size) :
    (Builtin.copy_ #[22, 22] 3 #[.slice (some ⟨W.heap.size, 0, none⟩) nr nr, .slice (some ⟨bl, o, none⟩) 8 8]).run Try.prog (W.alloc (.cells (nums nr fun _ => 0).toArray 3)) = .ok (goInt nr) (W.alloc (.cells (nums nr fun t => f (o + t)).toArray 3)) := by
  have hi := infoInt
  have hsz : (Try.prog.info? 3).map (·.size) = some 1 := by
    cases hq : Try.prog.info? 3 with
    | none => simp [hq] at hi
    | some i => rw [hq] at hi; simp at hi; simp [hi.2.1]
  have hc2 := hc.below (Below.alloc1 W (.cells (nums nr fun _ => 0).toArray 3)) hb
  have h := run_copy_row (P := Try.prog) (W.alloc (.cells (nums nr fun _ => 0).toArray 3)) 22 22 3 3 W.heap.size 0 nr nr ⟨bl, o, none⟩ 8 8 (nums nr fun _ => 0).toArray 3 (nums nr fun t => f (o + t)) undInts hsz
    (heap_new W _) (by rw [nums_length]; show nr = min 8 nr; omega) (fun j u hu => by
      have hj := (List.getElem?_eq_some_iff.1 hu).1
      rw [nums_length] at hj
      rw [nums_get nr _ j hj] at hu
      injection hu with hu
      subst hu
      have hp' : (⟨bl, o, none⟩ : Addr).add j = ⟨bl, o + j, none⟩ := by unfold Addr.add; split <;> simp_all
      have := (hc2 (o + j) (by omega)).1
      rw [Nat.zero_add] at this
      rw [hp']
      exact this) (by rw [nums_length, List.size_toArray, nums_length]; omega) (fun u hu => by
      unfold nums at hu
      rw [List.mem_map] at hu
      obtain ⟨k, _, rfl⟩ := hu
      rfl)
  rw [World.setRow_alloc_new, nums_length] at h
  rw [h]
  have hdr : List.drop nr (nums nr fun _ => 0) = [] := List.drop_eq_nil_of_le (by rw [nums_length]; omega)
  simp [hdr]

def WLoadOut (c : Cal) (ts ds : List Int) (w : World) (e : Ending) (w' : World) : Prop :=
  ∃ (v : Value) (s : Nat) (gs : List Nat) (F : Nat → Nat → Int), e = .returned (.tuple #[v, .int .i64 0]) ∧ w.heap.size ≤ s ∧ Out2 s w' v gs c.room.length F ∧ gs.length = c.wins.length ∧ (∀ i t, i < c.wins.length → t < c.room.length → F i t = loadN c (ts.zip ds) (i * 8 + t)) ∧ Below w.heap.size w w'

set_option maxRecDepth 100000 in
set_option maxHeartbeats 8000000 in
theorem wload_ok (c : Cal) (v1 v2 : Value) (ts ds : List Int) (w : World) (h : CalAt w c) (h1 : IntsAt w v1 ts) (h2 : IntsAt w v2 ds) (n1 : NilOk v1) (h0 : loadE c ts ds [] = 0) :
    Calls Try.prog 25 #[c.val, v1, v2] w fun e w' => WLoadOut c ts ds w e w' := by
  have HLD := Lib.hid (fun W (hW : Below w.heap.size w W) => load_any c v1 v2 (.slice none 0 0) ts ds [] W (h.below hW) (h1.below hW) (h2.below hW) (IntsAt.nil W) n1 (fun n c h => by simp only [Value.slice.injEq] at h; omega) (by simp))
  have HOK := Lib.hid (ok0_of (loadE_zero h0))
  have hw32 := HOK.out.wins
  have hr8 := HOK.out.room
  obtain ⟨wa, wc, ta, tc, ra, rc, hS⟩ := h.shape
  have HS := Lib.hid hS
  have H0 := Lib.hid (hS.box h)
  rw [hS.val] at HLD ⊢
  obtain ⟨a1, m1, rfl⟩ := h1.form
  obtain ⟨a2, m2, rfl⟩ := h2.form
  have HE := Lib.hid h0
  obtain ⟨Z, hZ⟩ : ∃ Z, Z = (nums c.room.length fun _ => 0).toArray := ⟨_, rfl⟩
  have hmk : ∀ W : World, (Instr.makeSlice 22 (.int .i64 (c.room.length : Int)) (.int .i64 (c.room.length : Int))).run Try.prog W = .ok (.slice (some ⟨W.heap.size, 0, none⟩) c.room.length c.room.length) (W.alloc (.cells Z 3)) := fun W => by
    rw [hZ]; exact run_make_ints W _ (by omega)
  have HZ := Lib.hid hZ
  clear h hS h1 h2 h0 n1 hZ
  go_enter Try.func25, Try.ntmps25
  go_wp2_with fail
  generalize w.alloc (.cells #[.slice wa c.wins.length wc, .slice ta c.team.length tc, .slice ra c.room.length rc] 25) = W0 at *
  refine (HLD.out _ H0.out.below).mono ?_
  rintro e w1 ⟨f, rfl, hf, hb⟩
  have H1 := Lib.hid (H0.out.later hb)
  have HF := Lib.hid (hf HE.out)
  rw [HE.out]
  have hz := store_new w1 76
  clear hb hf
  obtain ⟨X, hX⟩ : ∃ X, X = lval f := ⟨_, rfl⟩
  rw [← hX]
  have HX := Lib.hid hX
  clear hX
  have HNEW := Lib.hid (fun (W2 : World) (e : W2 = (w1.alloc (.cells Try.zeroCells76 76)).setCells w1.heap.size 0 (nums 256 f)) => show Box w W2 w.heap.size c ∧ Counts W2 w1.heap.size 0 256 f ∧ w1.heap.size < W2.heap.size from by
    subst e
    have hb : Below w1.heap.size w1 ((w1.alloc (.cells Try.zeroCells76 76)).setCells w1.heap.size 0 (nums 256 f)) := Below.setCells' _ _ ((Below.refl _ _).alloc (Nat.le_refl _) _) (Nat.le_refl _)
    exact ⟨H1.out.later hb, Counts.set hz, by rw [setCells_size]; simp⟩)
  go_wp2_with (first
    | (refine wxo_store hz HX.out rfl rfl rfl ?_; intro W2 HW2; have hd := HS.out.cells (HNEW.out W2 HW2.out).1)
    | (refine wxl_store hz HX.out rfl rfl rfl rfl ?_; intro W2 HW2; have hd := HS.out.cells (HNEW.out W2 HW2.out).1))
  have HN := Lib.hid (HNEW.out W2 HW2.out)
  clear HNEW hz hd HW2 HX H1 H0
  generalize w1.heap.size = Bl at *
  go_loopg [10, 26] c.wins.length (fun gg s10 s26 wr => ∃ (gs : List Nat) (F : Nat → Nat → Int), gs.length ≤ c.wins.length ∧ c.wins.length - gs.length ≤ gg ∧ s26 = .int .i64 gs.length ∧ Aside (Below W2.heap.size W2 wr) ∧ Aside (Out2 W2.heap.size wr s10 gs c.room.length F) ∧ Aside (∀ i t, i < gs.length → F i t = f (i * 8 + t)))
  case atStart => exact ⟨[], fun _ _ => 0, Nat.zero_le _, by simp, rfl, Below.refl _ _, Out2.nil _ _ _ _, fun i t h => by simp at h⟩
  case round =>
    obtain ⟨gs, F, hkk, hg, rfl, BW, O, A⟩ := hrel
    by_cases hlt : gs.length < c.wins.length
    · have hltz : (gs.length : Int) < (c.wins.length : Int) := by omega
      have hl32 : (gs.length : Int) < 32 := by omega
      have hd := HS.out.cells (HN.out.1.later BW.out)
      have hcp := run_copy_counts wr Bl (gs.length * 8) c.room.length f hr8 (by omega) (HN.out.2.1.below BW.out HN.out.2.2) (by have := HN.out.2.2; have := BW.out.size; omega)
      rw [← HZ.out] at hcp
      obtain ⟨Y, hY⟩ : ∃ Y, Y = (nums c.room.length fun t => f (gs.length * 8 + t)).toArray := ⟨_, rfl⟩
      have hx := O.out.add (fun t => f (gs.length * 8 + t)) 45 BW.out.size (by omega)
      rw [← hY] at hx hcp
      have X1 := Lib.hid hx
      clear hx hY
      go_wp2_with (at_builtin; refine wl_app2 rfl _ _ rfl rfl rfl X1.out ?_; intro v1 w1 R2)
      have BW2 := Lib.hid (BW.out.trans R2.2)
      have O2 := Lib.hid R2.1
      clear R2
      go_roundg (c.wins.length - (gs.length + 1))
      case measure => omega
      case rel => exact ⟨gs ++ [wr.heap.size], _, by simp; omega, by simp, by simp only [List.length_append, List.length_cons, List.length_nil]; go_num, BW2.out, O2.out, fun i t hi => by
        by_cases e : i = gs.length
        · subst e; simp
        · simp only [if_neg e]
          exact A.out i t (by simp at hi; omega)⟩
    · have hltz : ¬ (gs.length : Int) < (c.wins.length : Int) := by omega
      have HG := Lib.hid (show gs.length = c.wins.length by omega)
      go_wp2_with fail
      go_ret2
      exact ⟨_, _, gs, F, rfl, HN.out.1.below.size, O.out, HG.out, fun i t hi ht => by rw [A.out i t (by rw [HG.out]; exact hi)]; exact HF.out _ (by omega), HN.out.1.below.trans (BW.out.mono HN.out.1.below.size)⟩
end Go.Proofs.Ytpbahffkhpfakaa

namespace Go.Proofs.Ytpbahffkhpfakaa
open Go.RowKit
set_option linter.unusedSimpArgs false
set_option linter.unusedVariables false

set_option maxRecDepth 100000 in
set_option maxHeartbeats 8000000 in
theorem wload_err (c : Cal) (v1 v2 : Value) (ts ds : List Int) (w : World) (h : CalAt w c) (h1 : IntsAt w v1 ts) (h2 : IntsAt w v2 ds) (n1 : NilOk v1) (h0 : loadE c ts ds [] ≠ 0) :
    Calls Try.prog 25 #[c.val, v1, v2] w fun e w' => e = .returned (.tuple #[.slice none 0 0, .int .i64 (loadE c ts ds [])]) ∧ Below w.heap.size w w' := by
  have HLD := Lib.hid (fun W (hW : Below w.heap.size w W) => load_any c v1 v2 (.slice none 0 0) ts ds [] W (h.below hW) (h1.below hW) (h2.below hW) (IntsAt.nil W) n1 (fun n c h => by simp only [Value.slice.injEq] at h; omega) (by simp))
  obtain ⟨wa, wc, ta, tc, ra, rc, hS⟩ := h.shape
  have HS := Lib.hid hS
  have H0 := Lib.hid (hS.box h)
  rw [hS.val] at HLD ⊢
  obtain ⟨a1, m1, rfl⟩ := h1.form
  obtain ⟨a2, m2, rfl⟩ := h2.form
  have HE := Lib.hid h0
  obtain ⟨le, hle⟩ : ∃ n, n = loadE c ts ds [] := ⟨_, rfl⟩
  rw [← hle] at HE ⊢
  have HLE := Lib.hid hle
  clear h hS h1 h2 h0 n1 hle
  go_enter Try.func25, Try.ntmps25
  go_wp2_with fail
  generalize w.alloc (.cells #[.slice wa c.wins.length wc, .slice ta c.team.length tc, .slice ra c.room.length rc] 25) = W0 at *
  refine (HLD.out _ H0.out.below).mono ?_
  rintro e w1 ⟨f, rfl, hf, hb⟩
  have H1 := Lib.hid (H0.out.later hb)
  rw [← HLE.out]
  have hzb : (le == 0) = false := by simpa using HE.out
  have hz := store_new w1 76
  clear hb hf
  obtain ⟨X, hX⟩ : ∃ X, X = lval f := ⟨_, rfl⟩
  rw [← hX]
  have HX := Lib.hid hX
  clear hX
  have HNEW := Lib.hid (fun (W2 : World) (e : W2 = (w1.alloc (.cells Try.zeroCells76 76)).setCells w1.heap.size 0 (nums 256 f)) => show Box w W2 w.heap.size c ∧ Counts W2 w1.heap.size 0 256 f ∧ w1.heap.size < W2.heap.size from by
    subst e
    have hb : Below w1.heap.size w1 ((w1.alloc (.cells Try.zeroCells76 76)).setCells w1.heap.size 0 (nums 256 f)) := Below.setCells' _ _ ((Below.refl _ _).alloc (Nat.le_refl _) _) (Nat.le_refl _)
    exact ⟨H1.out.later hb, Counts.set hz, by rw [setCells_size]; simp⟩)
  go_wp2_with (first
    | (refine wxo_store hz HX.out rfl rfl rfl ?_; intro W2 HW2; have hd := HS.out.cells (HNEW.out W2 HW2.out).1)
    | (refine wxl_store hz HX.out rfl rfl rfl rfl ?_; intro W2 HW2; have hd := HS.out.cells (HNEW.out W2 HW2.out).1))
  have HN := Lib.hid (HNEW.out W2 HW2.out)
  go_ret2
  exact ⟨rfl, HN.out.1.below⟩
end Go.Proofs.Ytpbahffkhpfakaa

namespace Go.Proofs.Ytpbahffkhpfakaa
open Go.RowKit
set_option linter.unusedSimpArgs false
set_option linter.unusedVariables false

/-! ## The reference's Load -/

set_option maxRecDepth 100000 in
set_option maxHeartbeats 4000000 in
theorem rLoad_err (c : Cal) (v1 v2 : Value) (ts ds : List Int) (w : World) (h : CalAt w c) (h1 : IntsAt w v1 ts) (h2 : IntsAt w v2 ds) (h0 : loadE c ts ds [] ≠ 0) :
    Calls Try.prog 26 #[c.val, v1, v2] w fun e w' => e = .returned (.tuple #[.slice none 0 0, .int .i64 (loadE c ts ds [])]) ∧ Below w.heap.size w w' := by
  have HFT := Lib.hid (fun W (hW : Below w.heap.size w W) => rfit_any c v1 v2 ts ds W (h.below hW) (h1.below hW) (h2.below hW))
  obtain ⟨wa, wc, ta, tc, ra, rc, hS⟩ := h.shape
  have HS := Lib.hid hS
  have H0 := Lib.hid (hS.box h)
  have hd := hS.cells H0.out
  generalize loadE c ts ds [] = le at *
  have hzb : (le == 0) = false := by simpa using h0
  rw [hS.val] at HFT ⊢
  clear h h1 h2 hS
  go_enter Try.func26, Try.ntmps26
  go_wp2_with fail
  generalize w.alloc (.cells #[.slice wa c.wins.length wc, .slice ta c.team.length tc, .slice ra c.room.length rc] 25) = W0 at *
  refine (HFT.out _ H0.out.below).mono ?_
  rintro e w1 ⟨rfl, hb⟩
  have H1 := Lib.hid (H0.out.later hb)
  have B1 := Lib.hid H1.out.below
  clear hb hd
  have hd := HS.out.cells H1.out
  go_wp2_with fail
  go_ret2
  exact ⟨rfl, B1.out⟩

set_option maxRecDepth 100000 in
set_option maxHeartbeats 4000000 in
theorem rLoad_ok (c : Cal) (v1 v2 : Value) (ts ds : List Int) (w : World) (h : CalAt w c) (h1 : IntsAt w v1 ts) (h2 : IntsAt w v2 ds) (h0 : loadE c ts ds [] = 0) :
    Calls Try.prog 26 #[c.val, v1, v2] w fun e w' => WLoadOut c ts ds w e w' := by
  have HFT := Lib.hid (fun W (hW : Below w.heap.size w W) => rfit_any c v1 v2 ts ds W (h.below hW) (h1.below hW) (h2.below hW))
  obtain ⟨wa, wc, ta, tc, ra, rc, hS⟩ := h.shape
  have HS := Lib.hid hS
  have H0 := Lib.hid (hS.box h)
  have hd := hS.cells H0.out
  rw [h0] at HFT
  have HLD := Lib.hid (fun W (hW : Below w.heap.size w W) => rload_any c v1 v2 ts ds W (h.below hW) (h1.below hW) (h2.below hW) h0)
  rw [hS.val] at HFT HLD ⊢
  clear h h1 h2 h0 hS
  go_enter Try.func26, Try.ntmps26
  go_wp2_with fail
  generalize w.alloc (.cells #[.slice wa c.wins.length wc, .slice ta c.team.length tc, .slice ra c.room.length rc] 25) = W0 at *
  refine (HFT.out _ H0.out.below).mono ?_
  rintro e w1 ⟨rfl, hb⟩
  have H1 := Lib.hid (H0.out.later hb)
  have B1 := Lib.hid H1.out.below
  clear hb hd
  have hd := HS.out.cells H1.out
  go_wp2_with fail
  refine (HLD.out _ B1.out).mono ?_
  rintro e w2 ⟨v, s, gs, F, rfl, hs, hO, hg, hF, hb⟩
  have HX := Lib.hid (And.intro hs (And.intro hO (And.intro hg (And.intro hF hb))))
  clear hs hO hg hF hb
  go_wp2_with fail
  go_ret2
  exact ⟨v, s, gs, F, rfl, Nat.le_trans B1.out.size HX.out.1, HX.out.2.1, HX.out.2.2.1, fun i t _ ht => HX.out.2.2.2.1 i t ht, B1.out.trans (HX.out.2.2.2.2.mono B1.out.size)⟩
end Go.Proofs.Ytpbahffkhpfakaa


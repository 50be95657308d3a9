import Derived.Test.YtpbahffkhpfakaaWEarZ
namespace Go.Proofs.Ytpbahffkhpfakaa
open Go.RowKit
set_option linter.unusedSimpArgs false
set_option linter.unusedVariables false

/-! ## The chapter's example -/

theorem ints_new (W : World) (l : List Int) (T : TypeId) (hl : l.length ≤ 1000) : IntsAt (W.alloc (.cells (intVals l).toArray T)) (.slice (some ⟨W.heap.size, 0, none⟩) l.length l.length) l := by
  refine ⟨by omega, _, _, rfl, .inr ⟨W.heap.size, 0, rfl, by simp, fun j hj => ?_⟩⟩
  refine (World.cell?_alloc_at _ _ _ _ rfl).trans ?_
  simp [intVals, hj]
theorem Below.alloc1 (W : World) (o : Obj) : Below W.heap.size W (W.alloc o) := (Below.refl _ _).alloc (Nat.le_refl _) o

theorem flat3 : ∀ (ws : List Win) (j : Nat) (h : j < ws.length), (ws.flatMap Win.cells)[j * 3]? = some (.int .i64 ws[j].frm) ∧ (ws.flatMap Win.cells)[j * 3 + 1]? = some (.int .i64 ws[j].til) ∧ (ws.flatMap Win.cells)[j * 3 + 2]? = some ws[j].tv
  | [], j, h => by simp at h
  | x :: l, 0, _ => by simp [Win.cells]
  | x :: l, j + 1, h => by
    have ih := flat3 l j (by simpa using h)
    rw [List.flatMap_cons]
    have h3 : (Win.cells x).length = 3 := rfl
    refine ⟨?_, ?_, ?_⟩
    · rw [List.getElem?_append_right (by omega), show (j + 1) * 3 - (Win.cells x).length = j * 3 from by omega]
      exact ih.1
    · rw [List.getElem?_append_right (by omega), show (j + 1) * 3 + 1 - (Win.cells x).length = j * 3 + 1 from by omega]
      exact ih.2.1
    · rw [List.getElem?_append_right (by omega), show (j + 1) * 3 + 2 - (Win.cells x).length = j * 3 + 2 from by omega]
      exact ih.2.2
theorem wins_new (W : World) (ws : List Win) (T : TypeId) (hl : ws.length ≤ 1000) (ht : ∀ x ∈ ws, IntsAt W x.tv x.ts) : WinsAt (W.alloc (.cells (ws.flatMap Win.cells).toArray T)) (.slice (some ⟨W.heap.size, 0, none⟩) ws.length ws.length) ws := by
  refine ⟨by omega, ⟨_, _, rfl, .inr ⟨W.heap.size, 0, rfl, by simp, fun j hj => ?_⟩⟩, fun x hx => (ht x hx).below (Below.alloc1 _ _)⟩
  have h := flat3 ws j hj
  refine ⟨(World.cell?_alloc_at _ _ _ _ rfl).trans ?_, (World.cell?_alloc_at _ _ _ _ rfl).trans ?_, (World.cell?_alloc_at _ _ _ _ rfl).trans ?_⟩
  · rw [List.getElem?_toArray, Nat.zero_add]; exact h.1
  · rw [List.getElem?_toArray, Nat.zero_add]; exact h.2.1
  · rw [List.getElem?_toArray, Nat.zero_add]; exact h.2.2

/-- a calendar that lies in a block of its own -/
structure CalIn (w W : World) (B : Nat) (c : Cal) : Prop where
  below : Below w.heap.size w W
  hB : B < W.heap.size
  d0 : W.cell? ⟨B, 0, none⟩ = some c.wv
  d1 : W.cell? ⟨B, 1, none⟩ = some c.tv
  d2 : W.cell? ⟨B, 2, none⟩ = some c.rv
  cal : CalAt W c
theorem CalIn.later {w W W2 : World} {B : Nat} {c : Cal} (h : CalIn w W B c) (hb : Below W.heap.size W W2) : CalIn w W2 B c :=
  ⟨h.below.trans (hb.mono h.below.size), Nat.lt_of_lt_of_le h.hB hb.size, (hb.cell (p := ⟨B, 0, none⟩) h.hB).trans h.d0, (hb.cell (p := ⟨B, 1, none⟩) h.hB).trans h.d1, (hb.cell (p := ⟨B, 2, none⟩) h.hB).trans h.d2, h.cal.below hb⟩
theorem cal_in (w W : World) (c : Cal) (hw : Below w.heap.size w W) (h : CalAt W c) (T : TypeId) : CalIn w (W.alloc (.cells #[c.wv, c.tv, c.rv] T)) W.heap.size c := by
  have hb := Below.alloc1 W (.cells #[c.wv, c.tv, c.rv] T)
  exact ⟨hw.trans (hb.mono hw.size), by simp, by simp, by simp, by simp, h.below hb⟩

def exA (n : Nat) : Cal := ⟨[⟨10, 12, .slice (some ⟨n, 0, none⟩) 1 1, [0]⟩], [], [1], .slice (some ⟨n + 1, 0, none⟩) 1 1, .slice none 0 0, .slice (some ⟨n + 1 + 1, 0, none⟩) 1 1⟩
theorem ex_at (w : World) : CalIn w ((((w.alloc (.cells #[.int .i64 0] 3)).alloc (.cells #[.int .i64 10, .int .i64 12, .slice (some ⟨w.heap.size, 0, none⟩) 1 1] 58)).alloc (.cells #[.int .i64 1] 3)).alloc (.cells #[.slice (some ⟨w.heap.size + 1, 0, none⟩) 1 1, .slice none 0 0, .slice (some ⟨w.heap.size + 1 + 1, 0, none⟩) 1 1] 25)) (w.heap.size + 1 + 1 + 1) (exA w.heap.size) := by
  have i1 := ints_new w [0] 3 (by decide)
  have b0 := Below.alloc1 w (.cells #[.int .i64 0] 3)
  have s1 : (w.alloc (.cells #[.int .i64 0] 3)).heap.size = w.heap.size + 1 := by simp
  replace i1 : IntsAt (w.alloc (.cells #[.int .i64 0] 3)) (.slice (some ⟨w.heap.size, 0, none⟩) 1 1) [0] := i1
  generalize w.alloc (.cells #[.int .i64 0] 3) = W1 at *
  have i2 := wins_new W1 (exA w.heap.size).wins 58 (by simp [exA]) (fun x hx => by
    simp only [exA, List.mem_singleton] at hx
    subst hx
    exact i1)
  have b1 := Below.alloc1 W1 (.cells #[.int .i64 10, .int .i64 12, .slice (some ⟨w.heap.size, 0, none⟩) 1 1] 58)
  have s2 : (W1.alloc (.cells #[.int .i64 10, .int .i64 12, .slice (some ⟨w.heap.size, 0, none⟩) 1 1] 58)).heap.size = w.heap.size + 1 + 1 := by simp [s1]
  rw [s1] at i2
  replace i2 : WinsAt (W1.alloc (.cells #[.int .i64 10, .int .i64 12, .slice (some ⟨w.heap.size, 0, none⟩) 1 1] 58)) (.slice (some ⟨w.heap.size + 1, 0, none⟩) 1 1) (exA w.heap.size).wins := i2
  generalize W1.alloc (.cells #[.int .i64 10, .int .i64 12, .slice (some ⟨w.heap.size, 0, none⟩) 1 1] 58) = W2 at *
  have i3 := ints_new W2 [1] 3 (by decide)
  have b2 := Below.alloc1 W2 (.cells #[.int .i64 1] 3)
  have s3 : (W2.alloc (.cells #[.int .i64 1] 3)).heap.size = w.heap.size + 1 + 1 + 1 := by simp [s2]
  rw [s2] at i3
  replace i3 : IntsAt (W2.alloc (.cells #[.int .i64 1] 3)) (.slice (some ⟨w.heap.size + 1 + 1, 0, none⟩) 1 1) [1] := i3
  generalize W2.alloc (.cells #[.int .i64 1] 3) = W3 at *
  have h := cal_in w W3 (exA w.heap.size) ((b0.trans (b1.mono b0.size)).trans (b2.mono (by omega))) ⟨i2.below b2, IntsAt.nil _, i3⟩ 25
  rw [s3] at h
  exact h
theorem ex_chk (n : Nat) : checkF (exA n) 0 = 0 := by kernel_rfl
theorem ex_at_day (n : Nat) : atF (exA n) 11 = 0 := by kernel_rfl
theorem ex_fit (n : Nat) : fitsE (exA n) [0, 0] [10, 11] = 48 := by kernel_rfl

set_option maxRecDepth 100000 in
set_option maxHeartbeats 8000000 in
theorem awake_any (w : World) : Calls Try.prog 9 #[] w fun e w' => e = .returned (.bool true) ∧ Below w.heap.size w w' := by
  have HA := Lib.hid (ex_at w)
  go_enter Try.func9, Try.ntmps9
  go_wp2_with fail
  generalize ((((w.alloc (.cells #[.int .i64 0] 3)).alloc (.cells #[.int .i64 10, .int .i64 12, .slice (some ⟨w.heap.size, 0, none⟩) 1 1] 58)).alloc (.cells #[.int .i64 1] 3)).alloc (.cells #[.slice (some ⟨w.heap.size + 1, 0, none⟩) 1 1, .slice none 0 0, .slice (some ⟨w.heap.size + 1 + 1, 0, none⟩) 1 1] 25)) = W0 at *
  have hcall := at_ok (exA w.heap.size) 11 W0 HA.out.cal (ex_chk _)
  rw [ex_at_day] at hcall
  refine hcall.mono ?_
  clear hcall
  rintro e w1 ⟨rfl, hb⟩
  have HA1 := Lib.hid (HA.out.later hb)
  have d0 := HA1.out.d0
  have d1 := HA1.out.d1
  have d2 := HA1.out.d2
  simp only [exA] at d0 d1 d2
  clear hb
  rw [show decide ((0 : Int) ≤ 0) = true from rfl, show max (0 : Int) 0 = 0 from rfl]
  go_wp2_with fail
  have i1 := ints_new w1 [0, 0] 3 (by decide)
  have b1 := Below.alloc1 w1 (.cells #[.int .i64 0, .int .i64 0] 3)
  have s1 : (w1.alloc (.cells #[.int .i64 0, .int .i64 0] 3)).heap.size = w1.heap.size + 1 := by simp
  replace i1 : IntsAt (w1.alloc (.cells #[.int .i64 0, .int .i64 0] 3)) (.slice (some ⟨w1.heap.size, 0, none⟩) 2 2) [0, 0] := i1
  generalize w1.alloc (.cells #[.int .i64 0, .int .i64 0] 3) = W2 at *
  have i2 := ints_new W2 [10, 11] 3 (by decide)
  have b2 := Below.alloc1 W2 (.cells #[.int .i64 10, .int .i64 11] 3)
  rw [s1] at i2
  have hcall := fits_any (exA w.heap.size) (.slice (some ⟨w1.heap.size, 0, none⟩) 2 2) (.slice (some ⟨w1.heap.size + 1, 0, none⟩) 2 2) [0, 0] [10, 11] (W2.alloc (.cells #[.int .i64 10, .int .i64 11] 3)) ((HA1.out.cal.below b1).below b2) (i1.below b2) i2 (fun n m e => by cases e)
  rw [ex_fit] at hcall
  refine hcall.mono ?_
  have HB := Lib.hid ((HA1.out.later b1).later b2)
  clear hcall i1 i2 b1 b2 s1
  rintro e w3 ⟨rfl, hb⟩
  have HC := Lib.hid (HB.out.later hb)
  clear hb
  go_wp2_with fail
  go_ret
  exact ⟨rfl, HC.out.below⟩
end Go.Proofs.Ytpbahffkhpfakaa


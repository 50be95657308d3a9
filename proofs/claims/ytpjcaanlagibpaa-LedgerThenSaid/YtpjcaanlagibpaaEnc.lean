import Derived.Test.YtpjcaanlagibpaaPut
import Derived.Test.YtpjcaanlagibpaaSum
import Derived.Laws.BytesArg
import Derived.Laws.IdiomStrings
namespace Go.Proofs.Ytpjcaanlagibpaa
open Go.RowKit
set_option linter.unusedSimpArgs false
set_option linter.unusedVariables false

set_option maxRecDepth 100000 in
set_option maxHeartbeats 1000000 in
theorem encode_bad (d : Dec) (w : World) (h : d.ok = false) :
    Calls Try.prog 40 #[d.val] w fun e w' => e = .returned (.tuple #[.string ByteArray.empty, .int .i64 57]) ∧ Below w.heap.size w w' := by
  unfold Dec.val
  go_enter Try.func40, Try.ntmps40
  go_wp2_with (go_at_call 64; refine (jvalid_any d _).mono ?_; rintro e w' ⟨rfl, hb⟩)
  go_ret2
  exact ⟨rfl, ((Below.refl _ _).alloc (Nat.le_refl _) _).trans (hb.mono (by simp))⟩

theorem put_at (b off len cap n : Nat) (w : World) (hn : n < 9000000000000000000) (hl : len ≤ 1000)
    (hc : ∀ i, i < len → ∃ v, w.cell? ⟨b, off + i, none⟩ = some (.int .u8 v)) (hf : ∀ i, i < len → w.frozen? ⟨b, off + i, none⟩ = false) :
    Calls Try.prog 65 #[.slice (some ⟨b, off, none⟩) len cap, .int .i64 n] w.drew fun e w' => e = .returned (.tuple #[]) ∧ Put w w' b off (off + len) (fun o => byteOf n (off + len - 1 - o)) :=
  (put_any b off len cap n w.drew hn hl hc hf).mono fun e w' ⟨h1, h2⟩ => ⟨h1, ⟨⟨h2.below.os, h2.below.tape, h2.below.output, h2.below.size, h2.below.block⟩, h2.size, h2.frozen, h2.cell⟩⟩

set_option maxRecDepth 100000 in
theorem sum4_any (s : ByteArray) (w : World) (hs : s.size ≤ maxLen) :
    Calls Try.prog 55 #[.string s] w fun e w' => e = .returned (.int .i64 (fnv s.data.toList)) ∧ w' = w := by
  go_enter Try.func55, Try.ntmps55
  go_wp2_with (go_at_call 70; refine (sum_any _ _ hs).mono ?_; rintro e w' ⟨rfl, rfl⟩)
  go_ret
  exact ⟨rfl, rfl⟩

/-- what is known while a record is being written: the decision's box B, the array A -/
structure St (w0 v : World) (B A : Nat) (c : List Int) (g : Nat → Nat) : Prop where
  below : Below w0.heap.size w0 v
  box : ∀ j (h : j < c.length), v.cell? ⟨B, j, none⟩ = some (.int .i64 c[j])
  arr : ∀ o, o < 12 → v.cell? ⟨A, o, none⟩ = some (.int .u8 ((g o : Nat) : Int))
  free : ∀ o, v.frozen? ⟨A, o, none⟩ = false

def upd (g : Nat → Nat) (lo hi : Nat) (f : Nat → Nat) : Nat → Nat := fun o => if lo ≤ o ∧ o < hi then f o else g o

theorem St.put {w0 v v' : World} {B A : Nat} {c : List Int} {g f : Nat → Nat} {lo hi : Nat} (h : St w0 v B A c g) (hp : Put v v' A lo hi f) (hAB : B < A) (h0 : w0.heap.size ≤ A) : St w0 v' B A c (upd g lo hi f) := by
  refine ⟨h.below.trans (hp.below.mono h0), fun j hj => ?_, fun o ho => ?_, fun o => by rw [hp.frozen]; exact h.free o⟩
  · rw [hp.below.cell (p := ⟨B, j, none⟩) hAB]; exact h.box j hj
  · rw [hp.cell]
    unfold upd
    by_cases hh : lo ≤ o ∧ o < hi
    · rw [if_pos hh, if_pos hh]
    · rw [if_neg hh, if_neg hh]; exact h.arr o ho

theorem St.five {w0 v : World} {B A : Nat} {a k c s x : Int} {g : Nat → Nat} (h : St w0 v B A [a, k, c, s, x] g) :
    v.cell? ⟨B, 0, none⟩ = some (.int .i64 a) ∧ v.cell? ⟨B, 1, none⟩ = some (.int .i64 k) ∧ v.cell? ⟨B, 2, none⟩ = some (.int .i64 c) ∧ v.cell? ⟨B, 3, none⟩ = some (.int .i64 s) ∧ v.cell? ⟨B, 4, none⟩ = some (.int .i64 x) :=
  ⟨h.box 0 (by simp), h.box 1 (by simp), h.box 2 (by simp), h.box 3 (by simp), h.box 4 (by simp)⟩

/-- the bytes of an array of numbers -/
def bytesOf (g : Nat → Nat) (n : Nat) : List UInt8 := (List.range n).map fun o => UInt8.ofNat (g o)

theorem St.string {w0 v v' : World} {B A : Nat} {c : List Int} {g : Nat → Nat} (h : St w0 v B A c g) (hg : ∀ o, g o < 256) (hv : ∀ a, v'.cell? a = v.cell? a) (n cap : Nat) (hn : n ≤ 12) :
    (convert 60 9 (.slice (some ⟨A, 0, none⟩) n cap)).run Try.prog v' = .ok (.string ⟨(bytesOf g n).toArray⟩) v' := by
  have hl : (bytesOf g n).length = n := by simp [bytesOf]
  have := run_convert_bytes_back (P := Try.prog) v' 60 9 5 ⟨A, 0, none⟩ cap (bytesOf g n) Try.underlying60 Try.underlying5 Try.underlying9 (fun j hj => by
    rw [hv]
    have hj' : j < 12 := by omega
    have := h.arr j hj'
    have hp : (⟨A, 0, none⟩ : Addr).add j = ⟨A, j, none⟩ := by unfold Addr.add; split <;> simp_all
    rw [hp, this]
    simp [bytesOf, hg j, Nat.mod_eq_of_lt])
  rw [hl] at this
  exact this

theorem byteOf_lt (n j : Nat) : byteOf n j < 256 := by unfold byteOf; omega
theorem upd_lt {g f : Nat → Nat} {lo hi : Nat} (hg : ∀ o, g o < 256) (hf : ∀ o, f o < 256) : ∀ o, upd g lo hi f o < 256 := by
  intro o; unfold upd; split
  · exact hf o
  · exact hg o

/-- the first eight bytes of a record -/
def bodyG (a k c s x : Nat) : Nat → Nat :=
  upd (upd (upd (upd (upd (fun _ => 0) 0 (0 + 3) fun o => byteOf a (0 + 3 - 1 - o)) 3 (3 + 2) fun o => byteOf k (3 + 2 - 1 - o)) 5 (5 + 1) fun o => byteOf c (5 + 1 - 1 - o)) 6 (6 + 1) fun o => byteOf s (6 + 1 - 1 - o)) 7 (7 + 1) fun o => byteOf x (7 + 1 - 1 - o)
theorem bodyG_lt (a k c s x : Nat) : ∀ o, bodyG a k c s x o < 256 :=
  upd_lt (upd_lt (upd_lt (upd_lt (upd_lt (fun _ => by omega) (fun _ => byteOf_lt _ _)) (fun _ => byteOf_lt _ _)) (fun _ => byteOf_lt _ _)) (fun _ => byteOf_lt _ _)) (fun _ => byteOf_lt _ _)
/-- the sum of the first eight bytes -/
def bodySum (a k c s x : Nat) : Nat := fnv (bytesOf (bodyG a k c s x) 8)
/-- all bytes of a record -/
def recG (a k c s x : Nat) : Nat → Nat := upd (bodyG a k c s x) 8 (8 + 4) fun o => byteOf (bodySum a k c s x) (8 + 4 - 1 - o)
theorem recG_lt (a k c s x : Nat) : ∀ o, recG a k c s x o < 256 := upd_lt (bodyG_lt _ _ _ _ _) (fun _ => byteOf_lt _ _)
def recBytes (a k c s x : Nat) : List UInt8 := bytesOf (recG a k c s x) 12

set_option maxRecDepth 100000 in
set_option maxHeartbeats 1000000 in
theorem encode_ok (a k c s x : Nat) (w : World) (h : Dec.ok ⟨a, k, c, s, x⟩ = true) :
    Calls Try.prog 40 #[Dec.val ⟨a, k, c, s, x⟩] w fun e w' => e = .returned (.tuple #[.string ⟨(recBytes a k c s x).toArray⟩, .int .i64 0]) ∧ Below w.heap.size w w' := by
  unfold Dec.val
  have hv := fun w1 => jvalid_any ⟨a, k, c, s, x⟩ w1
  rw [h] at hv
  have HV := Lib.hid hv
  have hbd : (a : Int) ≤ 40000 ∧ (k : Int) ≤ 400 ∧ (c : Int) ≤ 5 ∧ (s : Int) ≤ 40 ∧ (x : Int) ≤ 1 := by
    simp [Dec.ok, validB, inB] at h; omega
  obtain ⟨ba, bk, bc, bs, bx⟩ := hbd
  have HH := Lib.hid h
  clear hv h
  go_enter Try.func40, Try.ntmps40
  go_wp2_with (go_at_call 64; refine (HV.out _).mono ?_; rintro e w1 ⟨rfl, hb1⟩)
  have hS : St w (w1.alloc (.cells #[.int .u8 0, .int .u8 0, .int .u8 0, .int .u8 0, .int .u8 0, .int .u8 0, .int .u8 0, .int .u8 0, .int .u8 0, .int .u8 0, .int .u8 0, .int .u8 0] 87)) w.heap.size w1.heap.size [a, k, c, s, x] (fun _ => 0) := by
    have hz := hb1.size
    simp at hz
    have h5 : ∀ j, (w1.alloc (.cells #[.int .u8 0, .int .u8 0, .int .u8 0, .int .u8 0, .int .u8 0, .int .u8 0, .int .u8 0, .int .u8 0, .int .u8 0, .int .u8 0, .int .u8 0, .int .u8 0] 87)).cell? ⟨w.heap.size, j, none⟩ = #[Value.int .i64 a, .int .i64 k, .int .i64 c, .int .i64 s, .int .i64 x][j]? := by
      intro j
      rw [World.cell?_alloc_past _ _ _ (by omega), hb1.cell (by simp), World.cell?_alloc_at _ _ _ _ rfl]
    refine ⟨((((Below.refl _ _).alloc (Nat.le_refl _) _).trans (hb1.mono (by simp))).alloc (by omega) _), ?_, ?_, ?_⟩
    · intro j hj
      rw [h5]
      simp at hj
      match j, hj with
      | 0, _ => rfl
      | 1, _ => rfl
      | 2, _ => rfl
      | 3, _ => rfl
      | 4, _ => rfl
    · intro o ho
      rw [World.cell?_alloc_at _ _ _ _ rfl]
      match o, ho with
      | 0, _ => rfl
      | 1, _ => rfl
      | 2, _ => rfl
      | 3, _ => rfl
      | 4, _ => rfl
      | 5, _ => rfl
      | 6, _ => rfl
      | 7, _ => rfl
      | 8, _ => rfl
      | 9, _ => rfl
      | 10, _ => rfl
      | 11, _ => rfl
    · intro o
      simp
  have hAB : w.heap.size < w1.heap.size := by have hz := hb1.size; simp at hz; omega
  have h0A : w.heap.size ≤ w1.heap.size := by omega
  clear hb1
  generalize (w1.alloc (.cells #[.int .u8 0, .int .u8 0, .int .u8 0, .int .u8 0, .int .u8 0, .int .u8 0, .int .u8 0, .int .u8 0, .int .u8 0, .int .u8 0, .int .u8 0, .int .u8 0] 87)) = v0 at *
  generalize w1.heap.size = A at *
  obtain ⟨f0, f1, f2, f3, f4⟩ := hS.five
  have HS := Lib.hid hS
  clear hS
  go_still_tail 3, (by kernel_rfl)
  change wpList _ _ _ _ _ v0.drew
  go_wp2_with (go_at_call 65; refine (put_at A 0 3 12 a _ (by omega) (by omega) (fun i hi => ⟨_, HS.out.arr _ (by omega)⟩) (fun i hi => HS.out.free _)).mono ?_; rintro e v1 ⟨rfl, hP⟩)
  have hS := (HS.out).put hP hAB h0A
  clear HS hP f0 f1 f2 f3 f4
  obtain ⟨f0, f1, f2, f3, f4⟩ := hS.five
  have HS := Lib.hid hS
  clear hS
  go_still_tail 3, (by kernel_rfl)
  change wpList _ _ _ _ _ v1.drew
  go_wp2_with (go_at_call 65; refine (put_at A 3 2 9 k _ (by omega) (by omega) (fun i hi => ⟨_, HS.out.arr _ (by omega)⟩) (fun i hi => HS.out.free _)).mono ?_; rintro e v2 ⟨rfl, hP⟩)
  have hS := (HS.out).put hP hAB h0A
  clear HS hP f0 f1 f2 f3 f4
  obtain ⟨f0, f1, f2, f3, f4⟩ := hS.five
  have HS := Lib.hid hS
  clear hS
  go_still_tail 3, (by kernel_rfl)
  change wpList _ _ _ _ _ v2.drew
  go_wp2_with (go_at_call 65; refine (put_at A 5 1 7 c _ (by omega) (by omega) (fun i hi => ⟨_, HS.out.arr _ (by omega)⟩) (fun i hi => HS.out.free _)).mono ?_; rintro e v3 ⟨rfl, hP⟩)
  have hS := (HS.out).put hP hAB h0A
  clear HS hP f0 f1 f2 f3 f4
  obtain ⟨f0, f1, f2, f3, f4⟩ := hS.five
  have HS := Lib.hid hS
  clear hS
  go_still_tail 3, (by kernel_rfl)
  change wpList _ _ _ _ _ v3.drew
  go_wp2_with (go_at_call 65; refine (put_at A 6 1 6 s _ (by omega) (by omega) (fun i hi => ⟨_, HS.out.arr _ (by omega)⟩) (fun i hi => HS.out.free _)).mono ?_; rintro e v4 ⟨rfl, hP⟩)
  have hS := (HS.out).put hP hAB h0A
  clear HS hP f0 f1 f2 f3 f4
  obtain ⟨f0, f1, f2, f3, f4⟩ := hS.five
  have HS := Lib.hid hS
  clear hS
  go_still_tail 3, (by kernel_rfl)
  change wpList _ _ _ _ _ v4.drew
  go_wp2_with (go_at_call 65; refine (put_at A 7 1 5 x _ (by omega) (by omega) (fun i hi => ⟨_, HS.out.arr _ (by omega)⟩) (fun i hi => HS.out.free _)).mono ?_; rintro e v5 ⟨rfl, hP⟩)
  have hS := (HS.out).put hP hAB h0A
  clear HS hP f0 f1 f2 f3 f4
  replace hS : St w v5 w.heap.size A [a, k, c, s, x] (bodyG a k c s x) := hS
  have hcv := hS.string (v' := v5.drew) (bodyG_lt _ _ _ _ _) (fun _ => rfl) 8 12 (by omega)
  have hsz : (⟨(bytesOf (bodyG a k c s x) 8).toArray⟩ : ByteArray).size ≤ maxLen := by show (bytesOf _ 8).toArray.size ≤ _; simp [bytesOf, maxLen]
  have hsum := sum4_any ⟨(bytesOf (bodyG a k c s x) 8).toArray⟩ v5.drew hsz
  have hsl : bodySum a k c s x < 4294967296 := fnv_lt _
  have hfn : fnv ((⟨(bytesOf (bodyG a k c s x) 8).toArray⟩ : ByteArray).data.toList) = bodySum a k c s x := by simp [bodySum]
  rw [hfn] at hsum
  have HS := Lib.hid hS
  have HSum := Lib.hid hsum
  clear hS hsum hfn hsz
  generalize (⟨(bytesOf (bodyG a k c s x) 8).toArray⟩ : ByteArray) = body at *
  refine wp_region_still_tail 4 (by kernel_rfl) (by kernel_rfl) ?_
  simp only [List.take_succ_cons, List.take_zero, List.drop_succ_cons, List.drop_zero]
  change wpStill _ _ v5.drew _ _ _
  still_step
  still_step
  still_step
  still_call HSum.out
  refine wpStill_nil ?_
  change wpList _ _ _ _ _ v5.drew
  clear hcv
  go_wp2_with (go_at_call 65; refine (put_at A 8 4 4 (bodySum a k c s x) _ (by omega) (by omega) (fun i hi => ⟨_, HS.out.arr _ (by omega)⟩) (fun i hi => HS.out.free _)).mono ?_; rintro e v6 ⟨rfl, hP⟩)
  have hS := (HS.out).put hP hAB h0A
  replace hS : St w v6 w.heap.size A [a, k, c, s, x] (recG a k c s x) := hS
  have hcv := hS.string (v' := v6) (recG_lt _ _ _ _ _) (fun _ => rfl) 12 12 (by omega)
  replace hcv : (convert 60 9 (.slice (some ⟨A, 0, none⟩) 12 12)).run Try.prog v6 = .ok (.string ⟨(recBytes a k c s x).toArray⟩) v6 := hcv
  have hB := hS.below
  clear HS hS hP
  go_wp2
  rw [hcv]
  clear hcv
  go_wp2
  go_ret2
  exact ⟨rfl, hB⟩
end Go.Proofs.Ytpjcaanlagibpaa

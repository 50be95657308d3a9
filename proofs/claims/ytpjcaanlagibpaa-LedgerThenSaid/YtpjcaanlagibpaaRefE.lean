import Derived.Test.YtpjcaanlagibpaaRef
namespace Go.Proofs.Ytpjcaanlagibpaa
open Go.RowKit
set_option linter.unusedSimpArgs false
set_option linter.unusedVariables false

theorem beBytes_length (n w : Nat) : (beBytes n w).length = w := by simp [beBytes, bytesOf]

theorem body_eq (a k c s x : Nat) : beBytes a 3 ++ beBytes k 2 ++ beBytes c 1 ++ beBytes s 1 ++ beBytes x 1 = bytesOf (bodyG a k c s x) 8 := by
  simp [beBytes, bytesOf, bodyG, upd, List.range_succ]
theorem rec_eq (a k c s x : Nat) : bytesOf (bodyG a k c s x) 8 ++ beBytes (bodySum a k c s x) 4 = recBytes a k c s x := by
  simp [recBytes, recG, beBytes, bytesOf, bodyG, upd, List.range_succ]

theorem add_lists (x y : List UInt8) (w : World) (hx : x.length ≤ 70000) (hy : y.length ≤ 70000) :
    (Op.stringOp .add ⟨x.toArray⟩ ⟨y.toArray⟩).run Try.prog w = .ok (.string ⟨(x ++ y).toArray⟩) w :=
  run_string_add_lists w x y (by omega) (by omega)

theorem add_lists' (x y z : List UInt8) (h : x ++ y = z) (hx : x.length ≤ 70000) (hy : y.length ≤ 70000) : ∀ (w : World),
    (Op.stringOp .add ⟨x.toArray⟩ ⟨y.toArray⟩).run Try.prog w = .ok (.string ⟨z.toArray⟩) w := by
  intro w; subst h; exact add_lists x y w hx hy

set_option maxRecDepth 100000 in
set_option maxHeartbeats 4000000 in
theorem refencode_ok (a k c s x : Nat) (w : World) (h : Dec.ok ⟨a, k, c, s, x⟩ = true) :
    Calls Try.prog 41 #[Dec.val ⟨a, k, c, s, x⟩] w fun e w' => e = .returned (.tuple #[.string ⟨(recBytes a k c s x).toArray⟩, .int .i64 0]) ∧ Below w.heap.size w w' := by
  have hbd := (ok_iff _).1 h
  simp only at hbd
  have HV := Lib.hid (fun w1 => refvalid_yes ⟨a, k, c, s, x⟩ w1 h)
  have n1 : ∀ w1, Calls Try.prog 66 #[.int .i64 a, .int .i64 3] w1 fun e w' => e = .returned (.string ⟨(beBytes a 3).toArray⟩) ∧ Below w1.heap.size w1 w' := fun w1 => refnumber_any a 3 w1 (by omega) (by omega) (by omega)
  have n2 : ∀ w1, Calls Try.prog 66 #[.int .i64 k, .int .i64 2] w1 fun e w' => e = .returned (.string ⟨(beBytes k 2).toArray⟩) ∧ Below w1.heap.size w1 w' := fun w1 => refnumber_any k 2 w1 (by omega) (by omega) (by omega)
  have n3 : ∀ w1, Calls Try.prog 66 #[.int .i64 c, .int .i64 1] w1 fun e w' => e = .returned (.string ⟨(beBytes c 1).toArray⟩) ∧ Below w1.heap.size w1 w' := fun w1 => refnumber_any c 1 w1 (by omega) (by omega) (by omega)
  have n4 : ∀ w1, Calls Try.prog 66 #[.int .i64 s, .int .i64 1] w1 fun e w' => e = .returned (.string ⟨(beBytes s 1).toArray⟩) ∧ Below w1.heap.size w1 w' := fun w1 => refnumber_any s 1 w1 (by omega) (by omega) (by omega)
  have n5 : ∀ w1, Calls Try.prog 66 #[.int .i64 x, .int .i64 1] w1 fun e w' => e = .returned (.string ⟨(beBytes x 1).toArray⟩) ∧ Below w1.heap.size w1 w' := fun w1 => refnumber_any x 1 w1 (by omega) (by omega) (by omega)
  have n6 : ∀ w1, Calls Try.prog 66 #[.int .i64 (bodySum a k c s x : Nat), .int .i64 4] w1 fun e w' => e = .returned (.string ⟨(beBytes (bodySum a k c s x) 4).toArray⟩) ∧ Below w1.heap.size w1 w' := fun w1 => refnumber_any (bodySum a k c s x) 4 w1 (by have := fnv_lt (bytesOf (bodyG a k c s x) 8); unfold bodySum; omega) (by omega) (by omega)
  have hs := fun w1 => refsum_any ⟨(bytesOf (bodyG a k c s x) 8).toArray⟩ w1 (by show (bytesOf _ 8).toArray.size ≤ _; simp [bytesOf, maxLen])
  have hfn : fnv ((⟨(bytesOf (bodyG a k c s x) 8).toArray⟩ : ByteArray).data.toList) = bodySum a k c s x := by simp [bodySum]
  rw [hfn] at hs
  have e1 := body_eq a k c s x
  have e2 := rec_eq a k c s x
  have l1 := beBytes_length a 3
  have l2 := beBytes_length k 2
  have l3 := beBytes_length c 1
  have l4 := beBytes_length s 1
  have l5 := beBytes_length x 1
  have l6 := beBytes_length (bodySum a k c s x) 4
  have hN : bodySum a k c s x < 4294967296 := fnv_lt _
  generalize bytesOf (bodyG a k c s x) 8 = B8 at *
  generalize recBytes a k c s x = R at *
  generalize bodySum a k c s x = N at *
  generalize beBytes a 3 = b1 at *
  generalize beBytes k 2 = b2 at *
  have l8 : B8.length = 8 := by rw [← e1]; simp [l1, l2, beBytes_length]
  subst e1
  subst e2
  have A1 := add_lists' b1 b2 _ rfl (by omega) (by omega)
  have A2 := add_lists' (b1 ++ b2) (beBytes c 1) (b1 ++ (b2 ++ beBytes c 1)) (by simp) (by simp; omega) (by omega)
  have A3 := add_lists' (b1 ++ (b2 ++ beBytes c 1)) (beBytes s 1) (b1 ++ (b2 ++ (beBytes c 1 ++ beBytes s 1))) (by simp) (by simp; omega) (by omega)
  have A4 := add_lists' (b1 ++ (b2 ++ (beBytes c 1 ++ beBytes s 1))) (beBytes x 1) (b1 ++ (b2 ++ (beBytes c 1 ++ (beBytes s 1 ++ beBytes x 1)))) (by simp) (by simp; omega) (by omega)
  have A5 := add_lists' (b1 ++ (b2 ++ (beBytes c 1 ++ (beBytes s 1 ++ beBytes x 1)))) (beBytes N 4) (b1 ++ (b2 ++ (beBytes c 1 ++ (beBytes s 1 ++ (beBytes x 1 ++ beBytes N 4))))) (by simp) (by simp; omega) (by omega)
  simp only [List.append_assoc] at hs ⊢
  have N1 := Lib.hid n1
  have N2 := Lib.hid n2
  have N3 := Lib.hid n3
  have N4 := Lib.hid n4
  have N5 := Lib.hid n5
  have N6 := Lib.hid n6
  have HS := Lib.hid hs
  have AA5 := Lib.hid A5
  clear n1 n2 n3 n4 n5 n6 hs hfn l1 l2 l3 l4 l5 l6 l8 A5 h hbd
  unfold Dec.val
  go_enter Try.func41, Try.ntmps41
  go_wp2_with (go_at_call 60; refine (HV.out _).mono ?_; rintro e w1 ⟨rfl, hb1⟩)
  have hK : Below (w.heap.size + 1) (w.alloc (.cells #[.int .i64 a, .int .i64 k, .int .i64 c, .int .i64 s, .int .i64 x] 27)) w1.drew := Below.drew (hb1.mono (by simp))
  have hW : Below w.heap.size w (w.alloc (.cells #[.int .i64 a, .int .i64 k, .int .i64 c, .int .i64 s, .int .i64 x] 27)) := (Below.refl _ _).alloc (Nat.le_refl _) _
  have q0 : (w.alloc (.cells #[.int .i64 a, .int .i64 k, .int .i64 c, .int .i64 s, .int .i64 x] 27)).cell? ⟨w.heap.size, 0, none⟩ = some (.int .i64 a) := World.cell?_alloc_at _ _ _ _ rfl
  have q1 : (w.alloc (.cells #[.int .i64 a, .int .i64 k, .int .i64 c, .int .i64 s, .int .i64 x] 27)).cell? ⟨w.heap.size, 1, none⟩ = some (.int .i64 k) := World.cell?_alloc_at _ _ _ _ rfl
  have q2 : (w.alloc (.cells #[.int .i64 a, .int .i64 k, .int .i64 c, .int .i64 s, .int .i64 x] 27)).cell? ⟨w.heap.size, 2, none⟩ = some (.int .i64 c) := World.cell?_alloc_at _ _ _ _ rfl
  have q3 : (w.alloc (.cells #[.int .i64 a, .int .i64 k, .int .i64 c, .int .i64 s, .int .i64 x] 27)).cell? ⟨w.heap.size, 3, none⟩ = some (.int .i64 s) := World.cell?_alloc_at _ _ _ _ rfl
  have q4 : (w.alloc (.cells #[.int .i64 a, .int .i64 k, .int .i64 c, .int .i64 s, .int .i64 x] 27)).cell? ⟨w.heap.size, 4, none⟩ = some (.int .i64 x) := World.cell?_alloc_at _ _ _ _ rfl
  have hz : w.heap.size + 1 ≤ (w.alloc (.cells #[.int .i64 a, .int .i64 k, .int .i64 c, .int .i64 s, .int .i64 x] 27)).heap.size := by simp
  clear hb1
  generalize (w.alloc (.cells #[.int .i64 a, .int .i64 k, .int .i64 c, .int .i64 s, .int .i64 x] 27)) = W0 at *
  have hBB : w.heap.size < w.heap.size + 1 := Nat.lt_succ_self _
  go_region_held3 (fun w' => w'.cell? ⟨w.heap.size, 0, none⟩ = some (.int .i64 a) ∧ w'.cell? ⟨w.heap.size, 1, none⟩ = some (.int .i64 k) ∧ w'.cell? ⟨w.heap.size, 2, none⟩ = some (.int .i64 c) ∧ w'.cell? ⟨w.heap.size, 3, none⟩ = some (.int .i64 s) ∧ w'.cell? ⟨w.heap.size, 4, none⟩ = some (.int .i64 x))
    (exact ⟨(hK.cell hBB).trans q0, (hK.cell hBB).trans q1, (hK.cell hBB).trans q2, (hK.cell hBB).trans q3, (hK.cell hBB).trans q4⟩)
    (first | (go_at_call 66; (first | (with_reducible refine (N1.out _).mono ?_) | (with_reducible refine (N2.out _).mono ?_) | (with_reducible refine (N3.out _).mono ?_) | (with_reducible refine (N4.out _).mono ?_) | (with_reducible refine (N5.out _).mono ?_)); (rintro e v ⟨rfl, hb⟩; have hK := hK.trans (hb.mono (Nat.le_trans hz hK.size)))))
  have hBv : Below w.heap.size w v := hW.trans (hK.mono (Nat.le_succ _))
  clear A1 A2 A3 A4 N1 N2 N3 N4 N5 q0 q1 q2 q3 q4
  have A5 := AA5.out
  go_wp2_with (first | (go_at_call 56; refine (HS.out _).mono ?_; rintro e u ⟨rfl, rfl⟩) | (go_at_call 66; refine (N6.out _).mono ?_; rintro e u2 ⟨rfl, hb6⟩))
  go_ret2
  exact ⟨rfl, hBv.trans (hb6.mono hBv.size)⟩

set_option maxRecDepth 100000 in
set_option maxHeartbeats 4000000 in
theorem refappend_ok (l : List UInt8) (a k c s x : Nat) (w : World) (h : Dec.ok ⟨a, k, c, s, x⟩ = true) (hl : l.length + 12 ≤ 65536) :
    Calls Try.prog 43 #[.string ⟨l.toArray⟩, Dec.val ⟨a, k, c, s, x⟩] w fun e w' => e = .returned (.tuple #[.string ⟨(l ++ recBytes a k c s x).toArray⟩, .int .i64 0]) ∧ Below w.heap.size w w' := by
  have HE := Lib.hid (fun w1 => refencode_ok a k c s x w1 h)
  have hr : (recBytes a k c s x).length = 12 := by simp [recBytes, bytesOf]
  have hA := add_lists' l (recBytes a k c s x) _ rfl (by omega) (by omega)
  have hs1 : (⟨l.toArray⟩ : ByteArray).size = l.length := by show l.toArray.size = _; simp
  have hs2 : (⟨(recBytes a k c s x).toArray⟩ : ByteArray).size = 12 := by show (recBytes a k c s x).toArray.size = _; simp [hr]
  have hli : ((⟨l.toArray⟩ : ByteArray).size : Int) + ((⟨(recBytes a k c s x).toArray⟩ : ByteArray).size : Int) ≤ 65536 := by rw [hs1, hs2]; omega
  clear hs1 hs2 hr hl
  generalize (⟨(l ++ recBytes a k c s x).toArray⟩ : ByteArray) = SR at *
  generalize (⟨(recBytes a k c s x).toArray⟩ : ByteArray) = R at *
  generalize (⟨l.toArray⟩ : ByteArray) = S at *
  unfold Dec.val
  go_enter Try.func43, Try.ntmps43
  go_wp2_with (go_at_call 41; refine (HE.out _).mono ?_; rintro e w1 ⟨rfl, hb1⟩)
  go_ret2
  exact ⟨rfl, ((Below.refl _ _).alloc (Nat.le_refl _) _).trans (hb1.mono (by simp))⟩
end Go.Proofs.Ytpjcaanlagibpaa

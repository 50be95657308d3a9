import Derived.Test.YtpjcaanlagibpaaSame
import Derived.Test.YtpjcaanlagibpaaLaw2
namespace Go.Proofs.Ytpjcaanlagibpaa
open Go.RowKit
set_option linter.unusedSimpArgs false
set_option linter.unusedVariables false

/-! ## Which records a string with one byte changed has: plain lists -/

theorem beVal_of (n w : Nat) (h : n < 256 ^ w) : beVal (beBytes n w) = n := by
  induction w generalizing n with
  | zero => have : n = 0 := by simpa using h
            subst this; rfl
  | succ w ih =>
    have e : beBytes n (w + 1) = beBytes (n / 256) w ++ [UInt8.ofNat (n % 256)] := by
      unfold beBytes bytesOf
      rw [List.range_succ, List.map_append]
      congr 1
      · apply List.map_congr_left
        intro o ho
        have ho' : o < w := by simpa using ho
        unfold byteOf
        show UInt8.ofNat (n / 256 ^ (w + 1 - 1 - o) % 256) = UInt8.ofNat (n / 256 / 256 ^ (w - 1 - o) % 256)
        rw [show w + 1 - 1 - o = (w - 1 - o) + 1 from by omega, Nat.pow_succ, Nat.mul_comm, ← Nat.div_div_eq_div_mul]
      · simp [byteOf]
    rw [e, beVal_snoc, ih (n / 256) (by rw [Nat.pow_succ] at h; omega)]
    simp
    omega

theorem recBytes_parts (a k c s x : Nat) : recBytes a k c s x = (beBytes a 3 ++ beBytes k 2 ++ beBytes c 1 ++ beBytes s 1 ++ beBytes x 1) ++ beBytes (bodySum a k c s x) 4 := by
  rw [body_eq, rec_eq]

theorem rec_take8 (a k c s x : Nat) : (recBytes a k c s x).take 8 = bytesOf (bodyG a k c s x) 8 := by
  rw [← rec_eq, List.take_append_of_le_length (by simp [bytesOf])]
  exact List.take_of_length_le (by simp [bytesOf])
theorem rec_drop8 (a k c s x : Nat) : (recBytes a k c s x).drop 8 = beBytes (bodySum a k c s x) 4 := by
  rw [← rec_eq, List.drop_append_of_le_length (by simp [bytesOf])]
  rw [List.drop_of_length_le (by simp [bytesOf]), List.nil_append]

/-- the sum of a record is right -/
theorem rec_good (a k c s x : Nat) : beVal ((recBytes a k c s x).drop 8) = fnv ((recBytes a k c s x).take 8) := by
  rw [rec_drop8, rec_take8, beVal_of _ _ (by have := fnv_lt (bytesOf (bodyG a k c s x) 8); unfold bodySum; omega)]
  rfl

theorem recGet_rec (a k c s x : Nat) (ha : a < 256 ^ 3) (hk : k < 256 ^ 2) (hc : c < 256) (hs : s < 256) (hx : x < 256) : recGet (recBytes a k c s x) = ⟨a, k, c, s, x⟩ := by
  have l3 := beBytes_length a 3
  have l2 := beBytes_length k 2
  have lc := beBytes_length c 1
  have ls := beBytes_length s 1
  have lx := beBytes_length x 1
  have e1 : (recBytes a k c s x).take 3 = beBytes a 3 := by
    rw [recBytes_parts]; simp [List.take_append, l3]
  have e2 : ((recBytes a k c s x).drop 3).take 2 = beBytes k 2 := by
    rw [recBytes_parts]; simp [List.take_append, List.drop_append, l3, l2]
  have e3 : ((recBytes a k c s x).drop 5).take 1 = beBytes c 1 := by
    rw [recBytes_parts]; simp [List.take_append, List.drop_append, l3, l2, lc]
  have e4 : ((recBytes a k c s x).drop 6).take 1 = beBytes s 1 := by
    rw [recBytes_parts]; rfl
  have e5 : ((recBytes a k c s x).drop 7).take 1 = beBytes x 1 := by
    rw [recBytes_parts]; rfl
  unfold recGet
  rw [e1, e2, e3, e4, e5, beVal_of a 3 ha, beVal_of k 2 hk, beVal_of c 1 (by omega), beVal_of s 1 (by omega), beVal_of x 1 (by omega)]

/-- a changed byte of a record is noticed by its sum -/
theorem beVal_inj : ∀ (l m : List UInt8), l.length = m.length → beVal l = beVal m → l = m := by
  intro l m hlen
  induction hn : l.length generalizing l m with
  | zero =>
    intro _
    have h1 : l = [] := List.eq_nil_of_length_eq_zero hn
    have h2 : m = [] := List.eq_nil_of_length_eq_zero (by omega)
    rw [h1, h2]
  | succ n ih =>
    intro he
    rcases List.eq_nil_or_concat l with rfl | ⟨l', b, rfl⟩
    · simp at hn
    rcases List.eq_nil_or_concat m with rfl | ⟨m', c, rfl⟩
    · simp at hlen
    rw [List.concat_eq_append, List.concat_eq_append, beVal_snoc, beVal_snoc] at he
    have hb := b.toNat_lt
    have hc := c.toNat_lt
    have h1 : beVal l' = beVal m' := by omega
    have h2 : b.toNat = c.toNat := by omega
    have := ih l' m' (by simpa using hlen) (by simpa using hn) h1
    rw [this, UInt8.toNat_inj.1 h2]

theorem rec_changed (r : List UInt8) (hr : r.length = 12) (hg : beVal (r.drop 8) = fnv (r.take 8)) (j : Nat) (hj : j < 12) (c : UInt8) (hne : c ≠ r[j]) :
    beVal ((r.set j c).drop 8) ≠ fnv ((r.set j c).take 8) := by
  by_cases h8 : j < 8
  · have e1 : (r.set j c).drop 8 = r.drop 8 := by rw [List.drop_set]; simp [h8]
    have e2 : (r.set j c).take 8 = (r.take 8).set j c := by rw [List.take_set]
    rw [e1, e2, hg]
    intro he
    exact fnv_set (r.take 8) j c (by simp; omega) (by simpa using hne) he.symm
  · have e1 : (r.set j c).drop 8 = (r.drop 8).set (j - 8) c := by rw [List.drop_set]; simp; intro h; omega
    have e2 : (r.set j c).take 8 = r.take 8 := by rw [List.take_set, List.set_eq_of_length_le (by simp; omega)]
    rw [e1, e2, ← hg]
    intro he
    have := beVal_inj _ _ (by simp) he
    have h2 : ((r.drop 8).set (j - 8) c)[j - 8]'(by simp; omega) = (r.drop 8)[j - 8]'(by simp; omega) := by congr 1
    rw [List.getElem_set_self] at h2
    rw [List.getElem_drop] at h2
    apply hne
    rw [h2]
    congr 1
    omega
end Go.Proofs.Ytpjcaanlagibpaa

import Derived.Test.YtpjcaanlagibpaaEnc
namespace Go.Proofs.Ytpjcaanlagibpaa
open Go.RowKit
set_option linter.unusedSimpArgs false
set_option linter.unusedVariables false

theorem recBytes_size (a k c s x : Nat) : (⟨(recBytes a k c s x).toArray⟩ : ByteArray).size = 12 := by
  show (recBytes a k c s x).toArray.size = 12
  simp [recBytes, bytesOf]

theorem fnv_empty : fnv [] = 2166136261 := by unfold fnv; rw [List.foldl_nil]

set_option maxRecDepth 100000 in
set_option maxHeartbeats 1000000 in
theorem awake_any (w : World) : Calls Try.prog 38 #[] w fun e w' => e = .returned (.bool true) ∧ Below w.heap.size w w' := by
  have h1 := fun w1 => encode_ok 0 0 1 0 0 w1 (by decide)
  have h2 := fun w1 => encode_bad ⟨0, 0, 0, 0, 0⟩ w1 (by decide)
  have hs : (⟨(recBytes 0 0 1 0 0).toArray⟩ : ByteArray).size = 12 := recBytes_size _ _ _ _ _
  have h3 := fun w1 => sum4_any ByteArray.empty w1 (by decide)
  have he : fnv (ByteArray.empty.data.toList) = 2166136261 := fnv_empty
  rw [he] at h3
  generalize (⟨(recBytes 0 0 1 0 0).toArray⟩ : ByteArray) = r at *
  have H1 := Lib.hid h1
  have H2 := Lib.hid h2
  have H3 := Lib.hid h3
  clear h1 h2 h3 he
  go_enter Try.func38, Try.ntmps38
  go_wp2_with fail
  refine (H1.out _).mono ?_
  rintro e w1 ⟨rfl, hb1⟩
  go_wp2_with fail
  refine (H2.out _).mono ?_
  rintro e w2 ⟨rfl, hb2⟩
  go_wp2_with fail
  refine (H3.out _).mono ?_
  rintro e w3 ⟨rfl, rfl⟩
  go_wp2
  go_ret
  exact ⟨rfl, hb1.trans (hb2.mono hb1.size)⟩
end Go.Proofs.Ytpjcaanlagibpaa

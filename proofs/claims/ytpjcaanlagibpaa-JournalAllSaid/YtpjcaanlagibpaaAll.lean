import Derived.Test.YtpjcaanlagibpaaRefRep
import Derived.Test.YtpjcaanlagibpaaLaw3
namespace Go.Proofs.Ytpjcaanlagibpaa
open Go.RowKit
set_option linter.unusedSimpArgs false
set_option linter.unusedVariables false

/-! ## What both answer for whatever decision -/

def encF (d : Dec) : ByteArray := if d.ok then ⟨(recOf d).toArray⟩ else ByteArray.empty
def encE (d : Dec) : Int := if d.ok then 0 else 57
def appF (l : List UInt8) (d : Dec) : ByteArray := if d.ok then ⟨(l ++ recOf d).toArray⟩ else ⟨l.toArray⟩

theorem encode_any (d : Dec) (w : World) :
    Calls Try.prog 40 #[d.val] w fun e w' => e = .returned (.tuple #[.string (encF d), .int .i64 (encE d)]) ∧ Below w.heap.size w w' := by
  unfold encF encE
  by_cases h : d.ok = true
  · rw [if_pos h, if_pos h]
    have hn := d.nats h
    unfold recOf
    rw [hn] at h ⊢
    exact encode_ok _ _ _ _ _ w h
  · rw [if_neg h, if_neg h]
    exact encode_bad d w (by simpa using h)

theorem refencode_any (d : Dec) (w : World) :
    Calls Try.prog 41 #[d.val] w fun e w' => e = .returned (.tuple #[.string (encF d), .int .i64 (encE d)]) ∧ Below w.heap.size w w' := by
  unfold encF encE
  by_cases h : d.ok = true
  · rw [if_pos h, if_pos h]
    have hn := d.nats h
    unfold recOf
    rw [hn] at h ⊢
    exact refencode_ok _ _ _ _ _ w h
  · rw [if_neg h, if_neg h]
    exact refencode_bad d w (by simpa using h)

theorem jappend_any (l : List UInt8) (d : Dec) (w : World) (hl : l.length + 12 ≤ 65536) :
    Calls Try.prog 42 #[.string ⟨l.toArray⟩, d.val] w fun e w' => e = .returned (.tuple #[.string (appF l d), .int .i64 (encE d)]) ∧ Below w.heap.size w w' := by
  unfold appF encE
  by_cases h : d.ok = true
  · rw [if_pos h, if_pos h]; exact jappend_ok l d w h hl
  · rw [if_neg h, if_neg h]; exact jappend_bad _ d w (by simpa using h)

theorem rappend_any (l : List UInt8) (d : Dec) (w : World) (hl : l.length + 12 ≤ 65536) :
    Calls Try.prog 43 #[.string ⟨l.toArray⟩, d.val] w fun e w' => e = .returned (.tuple #[.string (appF l d), .int .i64 (encE d)]) ∧ Below w.heap.size w w' := by
  unfold appF encE
  by_cases h : d.ok = true
  · rw [if_pos h, if_pos h]; exact refappend_any l d w h hl
  · rw [if_neg h, if_neg h]; exact refappend_bad _ d w (by simpa using h)
end Go.Proofs.Ytpjcaanlagibpaa

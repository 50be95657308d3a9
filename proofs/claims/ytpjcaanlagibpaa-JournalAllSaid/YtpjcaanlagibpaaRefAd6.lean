import Derived.Test.YtpjcaanlagibpaaRefAd3
import Derived.Test.YtpjcaanlagibpaaRefAd4
import Derived.Test.YtpjcaanlagibpaaRefAd5
namespace Go.Proofs.Ytpjcaanlagibpaa
open Go.RowKit
set_option linter.unusedSimpArgs false
set_option linter.unusedVariables false

theorem followsE_last (ds : List Dec) (d : Dec) (h : 0 < ds.length) : followsE ds d = if d.ok then (if d.day < (ds[ds.length - 1]'(by omega)).day ∨ d.known < (ds[ds.length - 1]'(by omega)).known then 6 else 0) else 57 := by
  unfold followsE
  have hl : ds.getLast? = some (ds[ds.length - 1]'(by omega)) := by
    rw [List.getLast?_eq_getElem?, List.getElem?_eq_getElem (by omega)]
  rw [hl]

theorem refadd_any (v : Value) (ds : List Dec) (d : Dec) (w : World) (h : SliceDecs w v ds) (hl : ds.length < 128) (hok : OKs ds) :
    Calls Try.prog 20 #[.agg #[v], d.val] w fun e w' => AddOut (addOne ds d) (followsE ds d) w e w' := by
  unfold addOne
  by_cases hd : d.ok = true
  · rcases Nat.eq_zero_or_pos ds.length with h0 | h0
    · have hf : followsE ds d = 0 := by
        rw [List.eq_nil_of_length_eq_zero h0]
        simp [followsE, hd]
      rw [if_pos hf, hf]
      exact refadd_first v ds d w h hl hok hd h0
    · have hf := followsE_last ds d h0
      rw [if_pos hd] at hf
      by_cases hx : d.day < (ds[ds.length - 1]'(by omega)).day
      · rw [if_pos (.inl hx)] at hf
        rw [hf, if_neg (by decide)]
        exact refadd_day v ds d w h hl hok hd h0 _ rfl hx
      · by_cases hy : d.known < (ds[ds.length - 1]'(by omega)).known
        · rw [if_pos (.inr hy)] at hf
          rw [hf, if_neg (by decide)]
          exact refadd_known v ds d w h hl hok hd h0 _ rfl hx hy
        · rw [if_neg (fun h => h.elim hx hy)] at hf
          rw [hf, if_pos rfl]
          exact refadd_next v ds d w h hl hok hd h0 _ rfl hx hy
  · have hf : followsE ds d = 57 := by unfold followsE; rw [if_neg hd]
    rw [hf, if_neg (by decide)]
    exact refadd_bad v ds d w h hl hok (by simpa using hd)
end Go.Proofs.Ytpjcaanlagibpaa

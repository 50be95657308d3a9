import Derived.Test.YtpjcaanlagibpaaFol
import Derived.Deep.RegionWith
import Derived.Deep.DeepMust
namespace Go.Proofs.Ytpjcaanlagibpaa
open Go.RowKit
set_option linter.unusedSimpArgs false
set_option linter.unusedVariables false

def DecAt (w : World) (b o : Nat) (d : Dec) : Prop :=
  w.cell? ⟨b, o, none⟩ = some (.int .i64 d.day) ∧ w.cell? ⟨b, o + 1, none⟩ = some (.int .i64 d.known) ∧ w.cell? ⟨b, o + 2, none⟩ = some (.int .i64 d.kind) ∧ w.cell? ⟨b, o + 3, none⟩ = some (.int .i64 d.subject) ∧ w.cell? ⟨b, o + 4, none⟩ = some (.int .i64 d.value)

def DecsAt (w : World) (b off : Nat) (ds : List Dec) : Prop := ∀ i (h : i < ds.length), DecAt w b (off + i * 5) ds[i]

def followsE (pre : List Dec) (d : Dec) : Int :=
  if d.ok then (match pre.getLast? with | none => 0 | some p => if d.day < p.day ∨ d.known < p.known then 6 else 0) else 57

theorem follows_any (b off cap : Nat) (pre : List Dec) (d : Dec) (w : World) (hl : pre.length ≤ 1000) (hm : DecsAt w b off pre) :
    Calls Try.prog 58 #[.slice (some ⟨b, off, none⟩) pre.length cap, d.val] w fun e w' => e = .returned (.int .i64 (followsE pre d)) ∧ Below w.heap.size w w' := by
  by_cases hok : d.ok = true
  · rcases List.eq_nil_or_concat pre with rfl | ⟨l', p, rfl⟩
    · exact (follows_first _ cap _ _ _ _ _ w hok).mono fun e w' ⟨h1, h2⟩ => ⟨by rw [h1]; simp [followsE, hok], h2⟩
    · have hlast := hm ((l'.concat p).length - 1) (by simp)
      have hp : (l'.concat p)[(l'.concat p).length - 1]'(by simp) = p := by simp
      rw [hp] at hlast
      exact (follows_next b off (l'.concat p).length cap p.day p.known _ _ _ _ _ w hok (by simp) (by simp at hl ⊢; omega) hlast.1 hlast.2.1).mono fun e w' ⟨h1, h2⟩ => ⟨by rw [h1]; simp [followsE, hok], h2⟩
  · exact (follows_bad _ pre.length cap _ _ _ _ _ w (by simpa [Dec.ok] using hok)).mono fun e w' ⟨h1, h2⟩ => ⟨by rw [h1]; simp [followsE, hok], h2⟩

theorem follows_at (b off cap : Nat) (pre : List Dec) (d : Dec) (n : Nat) (w : World) (hl : n ≤ 1000) (hn : n = pre.length) (hm : DecsAt w b off pre) :
    Calls Try.prog 58 #[.slice (some ⟨b, off, none⟩) n cap, d.val] w.drew fun e w' => e = .returned (.int .i64 (followsE pre d)) ∧ Below w.heap.size w w' := by
  subst hn
  exact (follows_any b off cap pre d w.drew hl hm).mono fun e w' ⟨h1, h2⟩ => ⟨h1, ⟨h2.os, h2.tape, h2.output, h2.size, h2.block⟩⟩

/-- the error of the first decision from place k on that does not follow -/
def checkFrom (ds : List Dec) (k : Nat) : Int :=
  if h : k < ds.length then (if followsE (ds.take k) ds[k] = 0 then checkFrom ds (k + 1) else followsE (ds.take k) ds[k]) else 0
termination_by ds.length - k

def checkE (ds : List Dec) : Int := if 128 < ds.length then 3 else checkFrom ds 0

set_option maxRecDepth 100000 in
set_option maxHeartbeats 1000000 in
theorem check_any (b off cap : Nat) (ds : List Dec) (w : World) (hl : ds.length ≤ 128) (hcap : ds.length ≤ cap) (hb : b < w.heap.size) (hm : DecsAt w b off ds) :
    Calls Try.prog 22 #[.agg #[.slice (some ⟨b, off, none⟩) ds.length cap]] w fun e w' => e = .returned (.int .i64 (checkFrom ds 0)) ∧ Below w.heap.size w w' := by
  have hl2 : (ds.length : Int) ≤ 128 := by omega
  go_enter Try.func22, Try.ntmps22
  go_wp2
  go_loopw [3, 4, 5, 13] (fun _ _ _ i wr => ∃ k : Nat, k ≤ ds.length ∧ i = .int .i64 k ∧ checkFrom ds k = checkFrom ds 0 ∧ Below (w.heap.size + 1) (w.alloc (.cells #[.slice (some ⟨b, off, none⟩) ds.length cap] 25)) wr) (fun _ _ _ i _ => ds.length - (intOf i).toNat)
  case atStart => exact ⟨0, Nat.zero_le _, rfl, rfl, Below.refl _ _⟩
  case round =>
    obtain ⟨k, hk, rfl, hck, hbe⟩ := hrel
    by_cases hlt : k < ds.length
    · obtain ⟨c0, c1, c2, c3, c4⟩ := hm k hlt
      have hcB := hbe.cell (p := ⟨w.heap.size, 0, none⟩) (by simp)
      have hcb : ∀ o, wr.cell? ⟨b, o, none⟩ = w.cell? ⟨b, o, none⟩ := by
        intro o
        rw [hbe.cell (p := ⟨b, o, none⟩) (by show b < _; omega)]
        exact World.cell?_alloc_past _ _ _ hb
      have hsz := hbe.size
      simp at hsz
      rw [← hcb] at c0 c1 c2 c3 c4
      simp at hcB
      have hz1 : w.heap.size < wr.heap.size := by omega
      have hz2 : b < wr.heap.size := by omega
      have hkc : k ≤ cap := by omega
      have HC := Lib.hid hck
      have HCB := Lib.hid hcb
      clear hck hcb
      go_wp2
      have d0 : (wr.alloc (.cells #[.int .i64 ds[k].day, .int .i64 ds[k].known, .int .i64 ds[k].kind, .int .i64 ds[k].subject, .int .i64 ds[k].value] 27)).cell? ⟨w.heap.size, 0, none⟩ = some (.slice (some ⟨b, off, none⟩) ds.length cap) := by rw [World.cell?_alloc_past _ _ _ hz1]; exact hcB
      have e1 : (wr.alloc (.cells #[.int .i64 ds[k].day, .int .i64 ds[k].known, .int .i64 ds[k].kind, .int .i64 ds[k].subject, .int .i64 ds[k].value] 27)).cell? ⟨wr.heap.size, 0, none⟩ = some (.int .i64 ds[k].day) := World.cell?_alloc_at _ _ _ _ rfl
      have e2 : (wr.alloc (.cells #[.int .i64 ds[k].day, .int .i64 ds[k].known, .int .i64 ds[k].kind, .int .i64 ds[k].subject, .int .i64 ds[k].value] 27)).cell? ⟨wr.heap.size, 1, none⟩ = some (.int .i64 ds[k].known) := World.cell?_alloc_at _ _ _ _ rfl
      have e3 : (wr.alloc (.cells #[.int .i64 ds[k].day, .int .i64 ds[k].known, .int .i64 ds[k].kind, .int .i64 ds[k].subject, .int .i64 ds[k].value] 27)).cell? ⟨wr.heap.size, 2, none⟩ = some (.int .i64 ds[k].kind) := World.cell?_alloc_at _ _ _ _ rfl
      have e4 : (wr.alloc (.cells #[.int .i64 ds[k].day, .int .i64 ds[k].known, .int .i64 ds[k].kind, .int .i64 ds[k].subject, .int .i64 ds[k].value] 27)).cell? ⟨wr.heap.size, 3, none⟩ = some (.int .i64 ds[k].subject) := World.cell?_alloc_at _ _ _ _ rfl
      have e5 : (wr.alloc (.cells #[.int .i64 ds[k].day, .int .i64 ds[k].known, .int .i64 ds[k].kind, .int .i64 ds[k].subject, .int .i64 ds[k].value] 27)).cell? ⟨wr.heap.size, 4, none⟩ = some (.int .i64 ds[k].value) := World.cell?_alloc_at _ _ _ _ rfl
      have hbw : Below wr.heap.size wr (wr.alloc (.cells #[.int .i64 ds[k].day, .int .i64 ds[k].known, .int .i64 ds[k].kind, .int .i64 ds[k].subject, .int .i64 ds[k].value] 27)) := (Below.refl _ _).alloc (Nat.le_refl _) _
      have hzz : wr.heap.size + 1 = (wr.alloc (.cells #[.int .i64 ds[k].day, .int .i64 ds[k].known, .int .i64 ds[k].kind, .int .i64 ds[k].subject, .int .i64 ds[k].value] 27)).heap.size := by simp
      have hD : DecsAt (wr.alloc (.cells #[.int .i64 ds[k].day, .int .i64 ds[k].known, .int .i64 ds[k].kind, .int .i64 ds[k].subject, .int .i64 ds[k].value] 27)) b off (ds.take k) := by
        intro i hi
        have hi' : i < k := by simp at hi; omega
        have hm' := hm i (by omega)
        unfold DecAt at hm' ⊢
        simp only [World.cell?_alloc_past _ _ _ hz2, HCB.out, List.getElem_take]
        exact hm'
      have HD := Lib.hid hD
      clear hD
      generalize (wr.alloc (.cells #[.int .i64 ds[k].day, .int .i64 ds[k].known, .int .i64 ds[k].kind, .int .i64 ds[k].subject, .int .i64 ds[k].value] 27)) = w2 at *
      go_still_tail 5, (by kernel_rfl)
      change wpList _ _ _ _ _ w2.drew
      have hkl : k ≤ 1000 := by omega
      go_wp2_with (go_at_call 58; refine (follows_at b off cap (ds.take k) ds[k] k _ hkl (by simp; omega) HD.out).mono ?_; rintro e w' ⟨rfl, hb'⟩)
      · have hne : (followsE (ds.take k) ds[k] != 0) = true := by assumption
        go_ret
        refine ⟨?_, ?_⟩
        · have hq : ¬ followsE (ds.take k) ds[k] = 0 := by simpa using hne
          have : checkFrom ds 0 = followsE (ds.take k) ds[k] := by rw [← HC.out, checkFrom, dif_pos hlt, if_neg hq]
          rw [this]
          rfl
        · exact (((Below.refl _ _).alloc (Nat.le_refl _) _).trans (hbe.mono (by omega))).trans ((hbw.mono (by omega)).trans (hb'.mono (by omega)))
      · have hne : (followsE (ds.take k) ds[k] != 0) = false := by assumption
        have hq : followsE (ds.take k) ds[k] = 0 := by simpa using hne
        go_roundw
        case rel => exact ⟨k + 1, by omega, by go_num, by rw [← HC.out]; conv => rhs; rw [checkFrom, dif_pos hlt, if_pos hq], hbe.trans ((hbw.mono (by omega)).trans (hb'.mono (by omega)))⟩
        case measure => simp [intOf]; omega
    · have hkk : k = ds.length := by omega
      have h0 : checkFrom ds k = 0 := by rw [checkFrom, dif_neg hlt]
      have HC := Lib.hid (hck.symm.trans h0)
      clear hck h0
      go_wp2
      go_ret
      exact ⟨by rw [HC.out]; rfl, ((Below.refl _ _).alloc (Nat.le_refl _) _).trans (hbe.mono (by omega))⟩
end Go.Proofs.Ytpjcaanlagibpaa

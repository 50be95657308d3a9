import Derived.Test.YtiognfhjmcbbpaaDoorCRow
import Derived.Laws.AppendOwn
import Derived.OwnWalk
namespace Go.Proofs.YtiognfhjmcbbpaaDoor
open Go.RowKit
set_option linter.unusedSimpArgs false
set_option linter.unusedVariables false

/-! ## Suites -/

def suList (n : Nat) : List Value := (List.range n).flatMap (fun k => ((suRow (k + 1)).cells ((k + 1 : Nat) : Int)).toList)
theorem suList_succ (n : Nat) : suList (n + 1) = suList n ++ ((suRow (n + 1)).cells ((n + 1 : Nat) : Int)).toList := by
  unfold suList
  rw [List.range_succ, List.flatMap_append]
  simp
theorem info_parts12 {ty : TypeId} {z : Value} {size bytes : Nat} (h : (Tryd.prog.info? ty).map (fun i => (i.zero, i.size, i.bytes)) = some (some z, size, bytes)) : ∃ i, Tryd.prog.info? ty = some i ∧ i.zero = some z ∧ i.size = size ∧ i.bytes = bytes := by
  cases hq : Tryd.prog.info? ty with
  | none => simp [hq] at h
  | some i =>
    simp [hq] at h
    exact ⟨i, rfl, h.1, h.2.1, h.2.2⟩
def suZero : Value := .agg #[.int .i64 0, .string ⟨#[]⟩, .int .i64 0, .int .i64 0, .int .i64 0, .int .i64 0, .int .i64 0, .int .i64 0, .int .i64 0, .int .i64 0, .int .i64 0, .int .i64 0]
theorem infoSuz : (Tryd.prog.info? 29).map (fun i => (i.zero, i.size, i.bytes)) = some (some suZero, 12, 104) := by kernel_rfl
theorem own_lt {w : World} {base : Nat} {e : TypeId} {size : Nat} {v : Value} {n : Nat} {xs : List Value} (h : w.ownsRow base e size v n xs) (k : Nat) (hk : v.ownBlock = some k) : base ≤ k := by
  rcases h.2 with ⟨rfl, _⟩ | ⟨g, cap, cur, rfl, hbg, _⟩
  · simp [Value.ownBlock] at hk
  · simp [Value.ownBlock] at hk
    omega
theorem own_keep {w w' : World} {base : Nat} {e : TypeId} {size n : Nat} {v : Value} {xs : List Value} (h : w.ownsRow base e size v n xs) (hb : Below w.heap.size w w') : w'.ownsRow base e size v n xs := by
  refine ⟨h.1, ?_⟩
  rcases h.2 with h0 | ⟨g, cap, cur, rfl, hg, hgg, rest⟩
  · exact .inl h0
  · exact .inr ⟨g, cap, cur, rfl, hg, by rw [hb.block g (Array.getElem?_eq_some_iff.1 hgg).1]; exact hgg, rest⟩
theorem new_cells (W : World) (l : Array Value) (t : TypeId) : ∀ j u, l.toList[j]? = some u → (W.alloc (.cells l t)).cell? ((⟨W.heap.size, 0, none⟩ : Addr).add j) = some u := by
  intro j u hu
  have hp : (⟨W.heap.size, 0, none⟩ : Addr).add j = ⟨W.heap.size, j, none⟩ := by unfold Addr.add; split <;> simp_all
  rw [hp]
  exact (cellOf (MapKept.heap_alloc W (.cells l t)).1 j).trans (by simpa using hu)
theorem one_cells (r : SuR) (i : Int) : ∀ u ∈ (r.cells i).toList, u.oneCell' = true := by
  intro u hu
  simp [SuR.cells] at hu
  rcases hu with h | h | h | h | h | h | h | h | h | h | h | h <;> subst h <;> rfl
set_option maxRecDepth 100000 in
set_option maxHeartbeats 2000000 in
theorem suites_any (w : World) (he : SuAt w) :
    Calls Tryd.prog 31 #[] w fun e w' => (∃ v, e = .returned v ∧ w'.ownsRow w.heap.size 29 12 v 16 (suList 16)) ∧ Below w.heap.size w w' := by
  have HE := Lib.hid he
  clear he
  go_enter Tryd.func31, Tryd.ntmps31
  go_wp2_with fail
  go_loopg [1, 2] 16 (fun gg s1 s2 wr => ∃ i : Nat, i ≤ 16 ∧ 16 - i ≤ gg ∧ s2 = .int .i64 ((i + 1 : Nat) : Int) ∧ Aside (Below w.heap.size w wr) ∧ Aside (wr.ownsRow w.heap.size 29 12 s1 i (suList i)))
  case atStart => exact ⟨0, by omega, by omega, rfl, Below.refl _ _, World.ownsRow_nil w _ _ _⟩
  case round =>
    obtain ⟨i, hi, hg, rfl, BW, O⟩ := hrel
    by_cases hlt : i < 16
    · have hltz : ((i + 1 : Nat) : Int) < 17 := by omega
      have hr := row_any (i + 1) (by omega) wr (HE.out.below BW.out)
      have hs := suList_succ i
      rw [show ((i + 1 : Nat) : Int) = (i : Int) + 1 from by omega] at hr hs
      have h1 := one_cells (suRow (i + 1)) ((i : Int) + 1)
      have hn := (fun W => new_cells W ((suRow (i + 1)).cells ((i : Int) + 1)) 29)
      generalize suRow (i + 1) = r at *
      obtain ⟨nm, v0, v1, v2, v3, v4, v5, v6, v7, v8, v9⟩ := r
      simp only [SuR.cells] at hr hs h1 hn
      have HROW := Lib.hid hr
      have HS := Lib.hid hs
      have H1 := Lib.hid h1
      have HN := Lib.hid hn
      clear hr hs h1 hn
      obtain ⟨i0, hi0, hz0, hz1, hz2⟩ := info_parts12 infoSuz
      have C3 := Lib.hid (show i + 1 ≤ maxLen from by unfold maxLen; omega)
      have C4 := Lib.hid (show (i + 1) * 104 ≤ 140737488355328 from by omega)
      go_wp2_with fail
      refine HROW.out.mono ?_
      rintro e w2 ⟨rfl, h2⟩
      have B2 := Lib.hid (BW.out.trans (h2.mono BW.out.size))
      have BA := Lib.hid (B2.out.trans ((Below.alloc1' w2 (.cells #[.int .i64 ((i : Int) + 1), .string nm, .int .i64 v0, .int .i64 v1, .int .i64 v2, .int .i64 v3, .int .i64 v4, .int .i64 v5, .int .i64 v6, .int .i64 v7, .int .i64 v8, .int .i64 v9] 29)).mono B2.out.size))
      have OA := Lib.hid (own_keep (own_keep O.out h2) (Below.alloc1' w2 (.cells #[.int .i64 ((i : Int) + 1), .string nm, .int .i64 v0, .int .i64 v1, .int .i64 v2, .int .i64 v3, .int .i64 v4, .int .i64 v5, .int .i64 v6, .int .i64 v7, .int .i64 v8, .int .i64 v9] 29)))
      have ZA := Lib.hid BA.out.size
      clear h2
      go_wp2_with (at_builtin; (go_loud (refine wpList_append_own _ rfl (.tmp 7) (.tmp 10) 47 rfl w.heap.size 29 i0 suZero 12 104 Tryd.underlying47 hi0 hz0 hz1 hz2 rfl (by decide) u1 i (suList i) rfl OA.out ⟨w2.heap.size, 0, none⟩ 1 1 (Array.toList #[.int .i64 ((i : Int) + 1), .string nm, .int .i64 v0, .int .i64 v1, .int .i64 v2, .int .i64 v3, .int .i64 v4, .int .i64 v5, .int .i64 v6, .int .i64 v7, .int .i64 v8, .int .i64 v9]) rfl rfl (HN.out w2) H1.out C3.out C4.out ZA.out ?_)); intro v' w6 hown' hgrow _; have BG := Lib.hid (BA.out.grown hgrow ZA.out (fun q hq => own_lt OA.out q hq)); have HW := Lib.hid hown'; clear hgrow hown')
      go_roundg (16 - (i + 1))
      case measure => omega
      case rel => exact ⟨i + 1, by omega, by omega, by go_num, BG.out, by (have h := HW.out; rw [← HS.out] at h; exact h)⟩
    · have hltz : ¬ ((i + 1 : Nat) : Int) < 17 := by omega
      have hi16 : i = 16 := by omega
      subst hi16
      go_wp2_with fail
      go_ret
      exact ⟨⟨_, rfl, O.out⟩, BW.out⟩
end Go.Proofs.YtiognfhjmcbbpaaDoor

import Derived.Test.YtpjcaanlagibpaaDecW
namespace Go.Proofs.Ytpjcaanlagibpaa
open Go.RowKit
set_option linter.unusedSimpArgs false
set_option linter.unusedVariables false

theorem owns_succ' {W : World} {base : Nat} {e : TypeId} {size : Nat} {v : Value} {k : Nat} {xs : List Value} (h : W.ownsRow base e size v (k + 1) xs) : ∃ g cap, v = .slice (some ⟨g, 0, none⟩) (k + 1) cap := by
  rcases h.2 with ⟨_, h0⟩ | ⟨g, cap, _, rfl, _⟩
  · omega
  · exact ⟨g, cap, rfl⟩

/-- the records of a string are those of some decisions, and what is behind them is none -/
structure Reads (s : ByteArray) (ds : List Dec) : Prop where
  good : ∀ i (h : i < ds.length) (w : World), Calls Try.prog 53 #[.string s, .int .i64 ((12 * i : Nat) : Int)] w fun e w' => e = .returned (.tuple #[.agg #[.int .i64 ds[i].day, .int .i64 ds[i].known, .int .i64 ds[i].kind, .int .i64 ds[i].subject, .int .i64 ds[i].value], .int .i64 (((12 * i : Nat) : Int) + 12), .int .i64 0]) ∧ Below w.heap.size w w'
  bad : ∃ c : Int, (c != 0) = true ∧ ∀ (w : World), Calls Try.prog 53 #[.string s, .int .i64 ((12 * ds.length : Nat) : Int)] w fun e w' => e = .returned (.tuple #[.agg #[.int .i64 0, .int .i64 0, .int .i64 0, .int .i64 0, .int .i64 0], .int .i64 0, .int .i64 c]) ∧ Below w.heap.size w w'
  len : ds.length ≤ 10000

def OpenOut (ds : List Dec) (w : World) (e : Ending) (w' : World) : Prop :=
  ∃ v : Value, e = .returned (.tuple #[v, .int .i64 ((12 * ds.length : Nat) : Int)]) ∧ OwnDecs w' w.heap.size v ds ∧ Below w.heap.size w w'

theorem OwnDecs.slice_val {w : World} {base : Nat} {v : Value} {ds : List Dec} (h : OwnDecs w base v ds) : ∃ ad n m, v = .slice ad n m := by
  rcases h.cases with ⟨rfl, _⟩ | ⟨g, cap, rfl, _⟩
  · exact ⟨_, _, _, rfl⟩
  · exact ⟨_, _, _, rfl⟩

theorem OwnDecs.below {w w' : World} {base : Nat} {v : Value} {ds : List Dec} (h : OwnDecs w base v ds) (hb : Below w.heap.size w w') : OwnDecs w' base v ds := h.kept fun k _ hk => hb.block k hk

set_option maxRecDepth 100000 in
set_option maxHeartbeats 4000000 in
theorem open_any (s : ByteArray) (ds : List Dec) (w : World) (h : Reads s ds) :
    Calls Try.prog 46 #[.string s] w fun e w' => OpenOut ds w e w' := by
  have hlen := h.len
  have HR := Lib.hid h
  clear h
  go_enter Try.func46, Try.ntmps46
  go_wp2_with fail
  go_loopw [4, 5, 6, 7, 8] (fun l at' _ _ _ wr => ∃ (k : Nat) (v : Value), k ≤ ds.length ∧ at' = .int .i64 ((12 * k : Nat) : Int) ∧ l = v ∧ OwnDecs wr w.heap.size v (ds.take k) ∧ Below w.heap.size w wr) (fun _ at' _ _ _ _ => (12 * (ds.length : Int) + 12 - intOf at').toNat)
  case atStart => exact ⟨0, _, Nat.zero_le _, rfl, rfl, ⟨rfl, .inl ⟨rfl, rfl⟩⟩, Below.refl _ _⟩
  case round =>
    obtain ⟨k, v, hk, rfl, rfl, hO, hB⟩ := hrel
    obtain ⟨ad, n, m, rfl⟩ := hO.slice_val
    by_cases hlt : k < ds.length
    · have hG := Lib.hid (HR.out.good k hlt)
      have HO := Lib.hid hO
      have HB := Lib.hid hB
      clear hO hB
      generalize hd : ds[k] = d at *
      have HD := Lib.hid hd
      clear hd
      generalize hc : ((12 * k : Nat) : Int) = c at *
      have HC := Lib.hid hc
      clear hc
      have hc0 : 0 ≤ c := by have := HC.out; omega
      have hc1 : c ≤ 120000 := by have := HC.out; omega
      go_wp2_with fail
      refine (hG.out _).mono ?_
      rintro e w1 ⟨rfl, hb1⟩
      have hz1 := hb1.size
      have hb5 : Below wr.heap.size wr ((w1.alloc (.cells #[.int .i64 d.day, .int .i64 d.known, .int .i64 d.kind, .int .i64 d.subject, .int .i64 d.value] 27)).alloc (.cells #[.int .i64 d.day, .int .i64 d.known, .int .i64 d.kind, .int .i64 d.subject, .int .i64 d.value] 27)) := (hb1.alloc hz1 _).alloc (by simp; omega) _
      have hO5 := HO.out.below hb5
      have hB5 := HB.out.trans (hb5.mono HB.out.size)
      have htmp : ∀ i u, [Value.int .i64 d.day, .int .i64 d.known, .int .i64 d.kind, .int .i64 d.subject, .int .i64 d.value][i]? = some u → World.cell? ((w1.alloc (.cells #[.int .i64 d.day, .int .i64 d.known, .int .i64 d.kind, .int .i64 d.subject, .int .i64 d.value] 27)).alloc (.cells #[.int .i64 d.day, .int .i64 d.known, .int .i64 d.kind, .int .i64 d.subject, .int .i64 d.value] 27)) ((⟨w1.heap.size + 1, 0, none⟩ : Addr).add i) = some u := by
        intro i u' hu'
        have hp' : (⟨w1.heap.size + 1, 0, none⟩ : Addr).add i = ⟨w1.heap.size + 1, i, none⟩ := by unfold Addr.add; split <;> simp_all
        rw [hp', World.cell?_alloc_at _ _ _ _ (by simp), ← hu']
        simp
      have htl : (ds.take k).length = k := by simp; omega
      have hO6 : World.ownsRow ((w1.alloc (.cells #[.int .i64 d.day, .int .i64 d.known, .int .i64 d.kind, .int .i64 d.subject, .int .i64 d.value] 27)).alloc (.cells #[.int .i64 d.day, .int .i64 d.known, .int .i64 d.kind, .int .i64 d.subject, .int .i64 d.value] 27)) w.heap.size 27 5 (.slice ad n m) k (flat (ds.take k)) := by have := hO5; unfold OwnDecs at this; rw [htl] at this; exact this
      have hrow : ∀ q, (Value.slice ad n m).ownBlock = some q → w.heap.size ≤ q := by
        intro q hq
        rcases hO5.cases with ⟨h1, _⟩ | ⟨g, cap, h1, hge, _⟩
        · rw [h1] at hq; simp [Value.ownBlock] at hq
        · rw [h1] at hq; simp [Value.ownBlock] at hq; omega
      have hsz : w.heap.size ≤ (World.heap ((w1.alloc (.cells #[.int .i64 d.day, .int .i64 d.known, .int .i64 d.kind, .int .i64 d.subject, .int .i64 d.value] 27)).alloc (.cells #[.int .i64 d.day, .int .i64 d.known, .int .i64 d.kind, .int .i64 d.subject, .int .i64 d.value] 27))).size := hB5.size
      have C2 := Lib.hid (show ∀ u ∈ [Value.int .i64 d.day, .int .i64 d.known, .int .i64 d.kind, .int .i64 d.subject, .int .i64 d.value], u.oneCell' = true from by intro u hu; simp at hu; rcases hu with rfl | rfl | rfl | rfl | rfl <;> rfl)
      have C3 := Lib.hid (show k + 1 ≤ maxLen from by unfold maxLen; omega)
      have C4 := Lib.hid (show (k + 1) * 40 ≤ 140737488355328 from by omega)
      have HO6 := Lib.hid hO6
      have HT := Lib.hid htmp
      have HZ := Lib.hid hsz
      have HR5 := Lib.hid hrow
      have HB5 := Lib.hid hB5
      obtain ⟨i0, hi, hz0, hz1', hz2⟩ := info_parts infoDec
      clear hO6 htmp hsz hrow hB5 hO5 hb5 htl
      go_wp2_with (at_builtin; (refine wpList_append_own _ rfl (.tmp 20) (.tmp 22) 23 rfl w.heap.size 27 i0 (.agg #[.int .i64 0, .int .i64 0, .int .i64 0, .int .i64 0, .int .i64 0]) 5 40 Try.underlying23 hi hz0 hz1' hz2 rfl (by decide) (.slice ad n m) k (flat (ds.take k)) rfl HO6.out ⟨w1.heap.size + 1, 0, none⟩ 1 1 [Value.int .i64 d.day, .int .i64 d.known, .int .i64 d.kind, .int .i64 d.subject, .int .i64 d.value] rfl rfl HT.out C2.out C3.out C4.out HZ.out ?_); intro v' w6 hown' hgrow _; have HG := Lib.hid (HB5.out.grown hgrow HZ.out HR5.out); have HW := Lib.hid hown'; clear hgrow; obtain ⟨g', cap', rfl⟩ := owns_succ' hown'; clear hown')
      have hts : ds.take (k + 1) = ds.take k ++ [d] := by rw [take_snoc_dec ds k hlt, HD.out]
      refine ⟨⟨k + 1, _, by omega, congrArg (Value.int .i64) (by have := HC.out; omega), rfl, ?_, HG.out⟩, by have := HC.out; simp [intOf]; omega⟩
      unfold OwnDecs
      rw [hts, flat_snoc, show (ds.take k ++ [d]).length = k + 1 from by simp; omega]
      exact HW.out
    · have hkk : k = ds.length := by omega
      subst hkk
      rw [List.take_length] at hO
      obtain ⟨c, hc, hbad⟩ := HR.out.bad
      have hG := Lib.hid hbad
      have HO := Lib.hid hO
      have HB := Lib.hid hB
      clear hO hB hbad
      go_wp2_with fail
      refine (hG.out _).mono ?_
      rintro e w1 ⟨rfl, hb1⟩
      have hB6 : Below wr.heap.size wr (w1.alloc (.cells #[.int .i64 0, .int .i64 0, .int .i64 0, .int .i64 0, .int .i64 0] 27)) := hb1.alloc hb1.size _
      have HF := Lib.hid (show OpenOut ds w (.returned (.tuple #[.slice ad n m, .int .i64 ((12 * ds.length : Nat) : Int)])) (w1.alloc (.cells #[.int .i64 0, .int .i64 0, .int .i64 0, .int .i64 0, .int .i64 0] 27)) from ⟨_, rfl, HO.out.below hB6, HB.out.trans (hB6.mono HB.out.size)⟩)
      clear hB6 hb1
      go_wp2_with fail
      go_ret2
      exact HF.out
end Go.Proofs.Ytpjcaanlagibpaa

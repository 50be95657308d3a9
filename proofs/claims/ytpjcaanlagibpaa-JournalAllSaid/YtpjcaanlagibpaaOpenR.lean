import Derived.Test.YtpjcaanlagibpaaRefD
import Derived.Test.YtpjcaanlagibpaaSame
namespace Go.Proofs.Ytpjcaanlagibpaa
open Go.RowKit
set_option linter.unusedSimpArgs false
set_option linter.unusedVariables false

/-- the records of a string are those of some decisions, and what is behind them is none -/
structure ReadsR (s : ByteArray) (ds : List Dec) : Prop where
  good : ∀ i (h : i < ds.length) (w : World), Calls Try.prog 54 #[.string s, .int .i64 ((12 * i : Nat) : Int)] w fun e w' => e = .returned (.tuple #[.agg #[.int .i64 ds[i].day, .int .i64 ds[i].known, .int .i64 ds[i].kind, .int .i64 ds[i].subject, .int .i64 ds[i].value], .int .i64 (((12 * i : Nat) : Int) + 12), .int .i64 0]) ∧ Below w.heap.size w w'
  bad : ∃ c : Int, (c != 0) = true ∧ ∀ (w : World), Calls Try.prog 54 #[.string s, .int .i64 ((12 * ds.length : Nat) : Int)] w fun e w' => e = .returned (.tuple #[.agg #[.int .i64 0, .int .i64 0, .int .i64 0, .int .i64 0, .int .i64 0], .int .i64 0, .int .i64 c]) ∧ Below w.heap.size w w'
  len : ds.length ≤ 10000

set_option maxRecDepth 100000 in
set_option maxHeartbeats 4000000 in
theorem refopen_any (s : ByteArray) (ds : List Dec) (w : World) (h   : ReadsR s ds) :
    Calls Try.prog 47 #[.string s] w fun e w' => OpenOut ds w e w' := by
  have hlen := h.len
  have HR := Lib.hid h
  clear h
  go_enter Try.func47, Try.ntmps47
  go_wp2_with fail
  go_loopw [4, 5, 6, 7, 8] (fun l at' _ _ _ wr => ∃ (k : Nat) (v : Value), k ≤ ds.length ∧ at' = .int .i64 ((12 * k : Nat) : Int) ∧ l = v ∧ OwnDecs wr w.heap.size v (ds.take k) ∧ Below w.heap.size w wr) (fun _ at' _ _ _ _ => (12 * (ds.length : Int) + 12 - intOf at').toNat)
  case atStart => exact ⟨0, _, Nat.zero_le _, rfl, rfl, ⟨rfl, .inl ⟨rfl, rfl⟩⟩, Below.refl _ _⟩
  case round =>
    obtain ⟨k, v, hk, rfl, rfl, hO, hB⟩ := hrel
    obtain ⟨ad, n, m, rfl⟩ := hO.slice_val
    by_cases hlt : k < ds.length
    · have hG := Lib.hid (HR.out.good k hlt)
      have HO := Lib.hid hO
      have HB := Lib.hid hB
      clear hO hB
      generalize hd : ds[k] = d at *
      have HD := Lib.hid hd
      clear hd
      generalize hc : ((12 * k : Nat) : Int) = c at *
      have HC := Lib.hid hc
      clear hc
      have hc0 : 0 ≤ c := by have := HC.out; omega
      have hc1 : c ≤ 120000 := by have := HC.out; omega
      go_wp2_with fail
      refine (hG.out _).mono ?_
      rintro e w1 ⟨rfl, hb1⟩
      have hz1 := hb1.size
      have hb5 : Below wr.heap.size wr ((w1.alloc (.cells #[.int .i64 d.day, .int .i64 d.known, .int .i64 d.kind, .int .i64 d.subject, .int .i64 d.value] 27)).alloc (.cells #[.int .i64 d.day, .int .i64 d.known, .int .i64 d.kind, .int .i64 d.subject, .int .i64 d.value] 27)) := (hb1.alloc hz1 _).alloc (by simp; omega) _
      have hO5 := HO.out.below hb5
      have hB5 := HB.out.trans (hb5.mono HB.out.size)
      have htmp : ∀ i u, [Value.int .i64 d.day, .int .i64 d.known, .int .i64 d.kind, .int .i64 d.subject, .int .i64 d.value][i]? = some u → World.cell? ((w1.alloc (.cells #[.int .i64 d.day, .int .i64 d.known, .int .i64 d.kind, .int .i64 d.subject, .int .i64 d.value] 27)).alloc (.cells #[.int .i64 d.day, .int .i64 d.known, .int .i64 d.kind, .int .i64 d.subject, .int .i64 d.value] 27)) ((⟨w1.heap.size + 1, 0, none⟩ : Addr).add i) = some u := by
        intro i u' hu'
        have hp' : (⟨w1.heap.size + 1, 0, none⟩ : Addr).add i = ⟨w1.heap.size + 1, i, none⟩ := by unfold Addr.add; split <;> simp_all
        rw [hp', World.cell?_alloc_at _ _ _ _ (by simp), ← hu']
        simp
      have htl : (ds.take k).length = k := by simp; omega
      have hO6 : World.ownsRow ((w1.alloc (.cells #[.int .i64 d.day, .int .i64 d.known, .int .i64 d.kind, .int .i64 d.subject, .int .i64 d.value] 27)).alloc (.cells #[.int .i64 d.day, .int .i64 d.known, .int .i64 d.kind, .int .i64 d.subject, .int .i64 d.value] 27)) w.heap.size 27 5 (.slice ad n m) k (flat (ds.take k)) := by have := hO5; unfold OwnDecs at this; rw [htl] at this; exact this
      have hrow : ∀ q, (Value.slice ad n m).ownBlock = some q → w.heap.size ≤ q := by
        intro q hq
        rcases hO5.cases with ⟨h1, _⟩ | ⟨g, cap, h1, hge, _⟩
        · rw [h1] at hq; simp [Value.ownBlock] at hq
        · rw [h1] at hq; simp [Value.ownBlock] at hq; omega
      have hsz : w.heap.size ≤ (World.heap ((w1.alloc (.cells #[.int .i64 d.day, .int .i64 d.known, .int .i64 d.kind, .int .i64 d.subject, .int .i64 d.value] 27)).alloc (.cells #[.int .i64 d.day, .int .i64 d.known, .int .i64 d.kind, .int .i64 d.subject, .int .i64 d.value] 27))).size := hB5.size
      have C2 := Lib.hid (show ∀ u ∈ [Value.int .i64 d.day, .int .i64 d.known, .int .i64 d.kind, .int .i64 d.subject, .int .i64 d.value], u.oneCell' = true from by intro u hu; simp at hu; rcases hu with rfl | rfl | rfl | rfl | rfl <;> rfl)
      have C3 := Lib.hid (show k + 1 ≤ maxLen from by unfold maxLen; omega)
      have C4 := Lib.hid (show (k + 1) * 40 ≤ 140737488355328 from by omega)
      have HO6 := Lib.hid hO6
      have HT := Lib.hid htmp
      have HZ := Lib.hid hsz
      have HR5 := Lib.hid hrow
      have HB5 := Lib.hid hB5
      obtain ⟨i0, hi, hz0, hz1', hz2⟩ := info_parts infoDec
      clear hO6 htmp hsz hrow hB5 hO5 hb5 htl
      go_wp2_with (at_builtin; (refine wpList_append_own _ rfl (.tmp 20) (.tmp 22) 23 rfl w.heap.size 27 i0 (.agg #[.int .i64 0, .int .i64 0, .int .i64 0, .int .i64 0, .int .i64 0]) 5 40 Try.underlying23 hi hz0 hz1' hz2 rfl (by decide) (.slice ad n m) k (flat (ds.take k)) rfl HO6.out ⟨w1.heap.size + 1, 0, none⟩ 1 1 [Value.int .i64 d.day, .int .i64 d.known, .int .i64 d.kind, .int .i64 d.subject, .int .i64 d.value] rfl rfl HT.out C2.out C3.out C4.out HZ.out ?_); intro v' w6 hown' hgrow _; have HG := Lib.hid (HB5.out.grown hgrow HZ.out HR5.out); have HW := Lib.hid hown'; clear hgrow; obtain ⟨g', cap', rfl⟩ := owns_succ' hown'; clear hown')
      have hts : ds.take (k + 1) = ds.take k ++ [d] := by rw [take_snoc_dec ds k hlt, HD.out]
      refine ⟨⟨k + 1, _, by omega, congrArg (Value.int .i64) (by have := HC.out; omega), rfl, ?_, HG.out⟩, by have := HC.out; simp [intOf]; omega⟩
      unfold OwnDecs
      rw [hts, flat_snoc, show (ds.take k ++ [d]).length = k + 1 from by simp; omega]
      exact HW.out
    · have hkk : k = ds.length := by omega
      subst hkk
      rw [List.take_length] at hO
      obtain ⟨c, hc, hbad⟩ := HR.out.bad
      have hG := Lib.hid hbad
      have HO := Lib.hid hO
      have HB := Lib.hid hB
      clear hO hB hbad
      go_wp2_with fail
      refine (hG.out _).mono ?_
      rintro e w1 ⟨rfl, hb1⟩
      have hB6 : Below wr.heap.size wr (w1.alloc (.cells #[.int .i64 0, .int .i64 0, .int .i64 0, .int .i64 0, .int .i64 0] 27)) := hb1.alloc hb1.size _
      have HF := Lib.hid (show OpenOut ds w (.returned (.tuple #[.slice ad n m, .int .i64 ((12 * ds.length : Nat) : Int)])) (w1.alloc (.cells #[.int .i64 0, .int .i64 0, .int .i64 0, .int .i64 0, .int .i64 0] 27)) from ⟨_, rfl, HO.out.below hB6, HB.out.trans (hB6.mono HB.out.size)⟩)
      clear hB6 hb1
      go_wp2_with fail
      go_ret2
      exact HF.out
theorem refwhole_any (s : ByteArray) (ds : List Dec) (w : World) (h   : ReadsR s ds) (hl : 12 * ds.length ≤ s.size) (hs : s.size ≤ 1000000) :
    Calls Try.prog 52 #[.string s] w fun e w' => e = .returned (.string (s.extract 0 (12 * ds.length))) ∧ Below w.heap.size w w' := by
  obtain ⟨n, hn⟩ : ∃ n, 12 * ds.length = n := ⟨_, rfl⟩
  have HR := Lib.hid (fun w1 => (refopen_any s ds w1 h).mono (R' := fun e w' => OpenN n w1 e w') (fun e w' ⟨v, he, _, hb⟩ => ⟨v, by rw [he, hn], hb⟩))
  rw [hn] at hl ⊢
  have hl2 : (n : Int) ≤ (s.size : Int) := by omega
  have hl3 : (s.size : Int) ≤ 1000000 := by omega
  clear h hn
  go_enter Try.func52, Try.ntmps52
  go_wp2_with fail
  refine (HR.out _).mono ?_
  rintro e w1 ⟨v, rfl, hB⟩
  go_wp2_with fail
  go_ret
  exact ⟨rfl, hB⟩


/-! ## Which decisions a string has -/

structure PReads (s : ByteArray) (ds : List Dec) : Prop where
  good : ∀ i (h : i < ds.length), decodeF s ((12 * i : Nat) : Int) = (ds[i], ((12 * i : Nat) : Int) + 12, 0)
  ok : ∀ d ∈ ds, d.ok = true
  bad : ∃ c : Int, (c != 0) = true ∧ decodeF s ((12 * ds.length : Nat) : Int) = (⟨0, 0, 0, 0, 0⟩, 0, c)
  len : 12 * ds.length ≤ s.size

theorem PReads.reads {s : ByteArray} {ds : List Dec} (h : PReads s ds) (hs : s.size ≤ 100000) : Reads s ds := by
  refine ⟨?_, ?_, by have := h.len; omega⟩
  · intro i hi w
    refine (decode_any s _ w hs).mono ?_
    rintro e w' ⟨he, hb⟩
    rw [h.good i hi] at he
    exact ⟨he, hb⟩
  · obtain ⟨c, hc, hd⟩ := h.bad
    refine ⟨c, hc, fun w => (decode_any s _ w hs).mono ?_⟩
    rintro e w' ⟨he, hb⟩
    rw [hd] at he
    exact ⟨he, hb⟩

theorem PReads.readsR {s : ByteArray} {ds : List Dec} (h : PReads s ds) (hs : s.size ≤ 100000) : ReadsR s ds := by
  refine ⟨?_, ?_, by have := h.len; omega⟩
  · intro i hi w
    refine (refdecode_any s _ w hs).mono ?_
    rintro e w' ⟨he, hb⟩
    rw [h.good i hi] at he
    exact ⟨he, hb⟩
  · obtain ⟨c, hc, hd⟩ := h.bad
    refine ⟨c, hc, fun w => (refdecode_any s _ w hs).mono ?_⟩
    rintro e w' ⟨he, hb⟩
    rw [hd] at he
    exact ⟨he, hb⟩

theorem decodeF_cases (s : ByteArray) (n : Nat) (h : n ≤ s.size) :
    (∃ c : Int, (c != 0) = true ∧ decodeF s (n : Int) = (⟨0, 0, 0, 0, 0⟩, 0, c)) ∨ (n + 12 ≤ s.size ∧ ∃ d : Dec, d.ok = true ∧ decodeF s (n : Int) = (d, (n : Int) + 12, 0)) := by
  unfold decodeF
  rw [if_neg (by omega)]
  by_cases h2 : (s.size : Int) - (n : Int) < 12
  · rw [if_pos h2]; exact .inl ⟨1, by decide, rfl⟩
  rw [if_neg h2, Int.toNat_natCast]
  by_cases h3 : beVal ((recAt s.data.toList n).drop 8) = fnv ((recAt s.data.toList n).take 8)
  · rw [if_neg (not_not_intro h3)]
    by_cases h4 : (recGet (recAt s.data.toList n)).ok = true
    · rw [if_pos h4]; exact .inr ⟨by omega, _, h4, rfl⟩
    · rw [if_neg h4]; exact .inl ⟨57, by decide, rfl⟩
  · rw [if_pos h3]; exact .inl ⟨58, by decide, rfl⟩

theorem preads_from (s : ByteArray) : ∀ (n : Nat) (pre : List Dec), (∀ i (h : i < pre.length), decodeF s ((12 * i : Nat) : Int) = (pre[i], ((12 * i : Nat) : Int) + 12, 0)) → (∀ d ∈ pre, d.ok = true) → 12 * pre.length ≤ s.size → s.size - 12 * pre.length ≤ 12 * n → ∃ ds, PReads s ds := by
  intro n
  induction n with
  | zero =>
    intro pre hg ho hp hn
    rcases decodeF_cases s (12 * pre.length) hp with h | ⟨h, _⟩
    · exact ⟨pre, hg, ho, h, hp⟩
    · omega
  | succ n ih =>
    intro pre hg ho hp hn
    rcases decodeF_cases s (12 * pre.length) hp with h | ⟨h, d, hd, he⟩
    · exact ⟨pre, hg, ho, h, hp⟩
    · refine ih (pre ++ [d]) ?_ ?_ (by simp; omega) (by simp; omega)
      · intro i hi
        by_cases hlt : i < pre.length
        · rw [List.getElem_append_left hlt]; exact hg i hlt
        · have : i = pre.length := by simp at hi; omega
          subst this
          simp only [List.getElem_concat_length]
          exact he
      · intro x hx
        rcases List.mem_append.1 hx with hx | hx
        · exact ho x hx
        · rw [List.mem_singleton.1 hx]; exact hd

theorem preads_any (s : ByteArray) : ∃ ds, PReads s ds :=
  preads_from s s.size [] (fun i h => by simp at h) (fun d h => by cases h) (by simp) (by simp; omega)
end Go.Proofs.Ytpjcaanlagibpaa

import Derived.Test.YtpbahffkhpfakaaWRegZ
namespace Go.Proofs.Ytpbahffkhpfakaa
open Go.RowKit
set_option linter.unusedSimpArgs false
set_option linter.unusedVariables false

/-! ## A window that fills up: what is to be expected -/

def fuC (n m : Nat) : Cal := ⟨[⟨10, 30, .slice (some ⟨m, 0, none⟩) 2 2, [0, 1]⟩, ⟨40, 50, .slice (some ⟨m + 1, 0, none⟩) 1 1, [0]⟩], [0, 1], [(n : Int), 5], .slice (some ⟨m + 1 + 1, 0, none⟩) 2 2, .slice (some ⟨m + 1 + 1 + 1, 0, none⟩) 2 2, .slice (some ⟨m + 1 + 1 + 1 + 1, 0, none⟩) 2 2⟩
theorem fu_chk (n m : Nat) (h : n ≤ 24) : checkF (fuC n m) 2 = 0 := by
  unfold checkF
  rw [if_neg (by simp [fuC]), if_neg (by simp [fuC, inB]; omega), if_neg (by simp [fuC, daysB]), if_neg (by simp [fuC, apartB, ascB, pairB]), if_neg (by simp [fuC, inB]), if_neg (by simp [fuC, inB])]
theorem fu_find (n m : Nat) (p : Int) (h : 10 ≤ p ∧ p < 30) : (fuC n m).wins.find? (hasB p) = some ⟨10, 30, .slice (some ⟨m, 0, none⟩) 2 2, [0, 1]⟩ := by
  simp [fuC, hasB, h.1, h.2]
theorem fu_atF (n m : Nat) (p : Int) (h : 10 ≤ p ∧ p < 30) : atF (fuC n m) p = 0 := by
  unfold atF
  exact firstI_hit (k := 0) (by simp [fuC]) (by simp [fuC, hasB, h.1, h.2]) (fun j _ hj => absurd hj (Nat.not_lt_zero _))
theorem fu_may (n m : Nat) (t p : Int) (ht : t = 0 ∨ t = 1) (h : 10 ≤ p ∧ p < 30) : mayF (fuC n m) t p = true := by
  unfold mayF
  rw [fu_find n m p h]
  rcases ht with rfl | rfl <;> rfl
theorem fu_slot (n m : Nat) (t p : Int) (h : 10 ≤ p ∧ p < 30) : slotOf (fuC n m) (t, p) = t := by
  unfold slotOf
  rw [fu_atF n m p h]
  show 0 * 8 + t = t
  omega
theorem zip_all {ts ds : List Int} {q : Int → Int → Prop} (h1 : ∀ t ∈ ts, ∀ p ∈ ds, q t p) : ∀ x ∈ ts.zip ds, q x.1 x.2 := fun x hx => by
  have := List.of_mem_zip (show (x.1, x.2) ∈ ts.zip ds from hx)
  exact h1 _ this.1 _ this.2
theorem fu_loadE (n m : Nat) (ts ds ask : List Int) (hn : n ≤ 24) (hl : ts.length = ds.length) (h24 : ts.length ≤ 24) (ht : ∀ t ∈ ts, t = 0 ∨ t = 1) (hd : ∀ p ∈ ds, 10 ≤ p ∧ p < 30) (ha : ∀ t ∈ ask, t = 0 ∨ t = 1) : loadE (fuC n m) ts ds ask = 0 := by
  unfold loadE
  have hc : checkF (fuC n m) (fuC n m).team.length = 0 := fu_chk n m hn
  have hr : rangeB (fuC n m) (ts ++ ask) = true := by
    unfold rangeB
    rw [List.all_eq_true]
    intro x hx
    rcases List.mem_append.1 hx with hx | hx
    · rcases ht x hx with rfl | rfl <;> simp [fuC, inB]
    · rcases ha x hx with rfl | rfl <;> simp [fuC, inB]
  have hm : mayB (fuC n m) (ts.zip ds) = true := by
    unfold mayB
    rw [List.all_eq_true]
    exact zip_all fun t h1 p h2 => fu_may n m t p (ht t h1) (hd p h2)
  rw [if_neg (by rw [hc]; simp), if_neg (by omega), if_neg (by omega), if_neg (by rw [hr]; simp), if_neg (by rw [hm]; simp)]
theorem filter_zip_fst (q : Int → Bool) : ∀ (ts ds : List Int), ts.length = ds.length → ((ts.zip ds).filter fun p => q p.1).length = (ts.filter q).length
  | [], _, _ => rfl
  | _ :: _, [], h => by simp at h
  | t :: ts, d :: ds, h => by
    have ih := filter_zip_fst q ts ds (by simpa using h)
    rw [List.zip_cons_cons, List.filter_cons, List.filter_cons]
    cases hq : q t with
    | true => simp only [hq, if_true, List.length_cons, ih]
    | false => simpa [hq] using ih
theorem fu_loadN (n m : Nat) (ts ds : List Int) (hl : ts.length = ds.length) (hd : ∀ p ∈ ds, 10 ≤ p ∧ p < 30) (o : Nat) : loadN (fuC n m) (ts.zip ds) o = ((ts.filter fun t => decide (t = (o : Int))).length : Nat) := by
  unfold loadN
  rw [← filter_zip_fst (fun t => decide (t = (o : Int))) ts ds hl]
  congr 1
  congr 1
  apply List.filter_congr
  intro x hx
  have h := zip_all (q := fun _ p => 10 ≤ p ∧ p < 30) (fun t _ p hp => hd p hp) x hx
  have := fu_slot n m x.1 x.2 h
  have e : (x.1, x.2) = x := rfl
  rw [e] at this
  rw [this]

def cnt (ts : List Int) (o : Nat) : Nat := (ts.filter fun t => decide (t = (o : Int))).length
theorem cnt_big {ts : List Int} (ht : ∀ t ∈ ts, t = 0 ∨ t = 1) (o : Nat) (h : 2 ≤ o) : cnt ts o = 0 := by
  unfold cnt
  rw [List.filter_eq_nil_iff.2 ?_]
  · rfl
  · intro t h1
    have := ht t h1
    simp
    omega
theorem fu_fullB (n m : Nat) (ts ds : List Int) (hl : ts.length = ds.length) (ht : ∀ t ∈ ts, t = 0 ∨ t = 1) (hd : ∀ p ∈ ds, 10 ≤ p ∧ p < 30) (h1 : cnt ts 1 ≤ 5) : fullB (fuC n m) (loadN (fuC n m) (ts.zip ds)) = decide (n < cnt ts 0) := by
  have hN := fu_loadN n m ts ds hl hd
  by_cases h0 : n < cnt ts 0
  · rw [decide_eq_true h0]
    refine fullB_yes (i := 0) (t := 0) (by omega) (by simp [fuC]) ?_
    rw [hN]
    show (n : Int) < (cnt ts 0 : Nat)
    omega
  · rw [decide_eq_false h0]
    refine fullB_no fun i hi t htl => ?_
    rw [hN]
    have h2 : t = 0 ∨ t = 1 := by
      have : t < 2 := by simpa [fuC] using htl
      omega
    by_cases hi0 : i = 0
    · subst hi0
      rcases h2 with rfl | rfl
      · show ((cnt ts 0 : Nat) : Int) ≤ (n : Int)
        omega
      · show ((cnt ts 1 : Nat) : Int) ≤ 5
        omega
    · have h3 := cnt_big ht (i * 8 + t) (by omega)
      show ((cnt ts (i * 8 + t) : Nat) : Int) ≤ _
      rw [h3]
      rcases h2 with rfl | rfl
      · show (0 : Int) ≤ (n : Int)
        omega
      · show (0 : Int) ≤ 5
        omega
theorem fu_fits (n m : Nat) (ts ds : List Int) (hn : n ≤ 24) (hl : ts.length = ds.length) (h24 : ts.length ≤ 24) (ht : ∀ t ∈ ts, t = 0 ∨ t = 1) (hd : ∀ p ∈ ds, 10 ≤ p ∧ p < 30) (h1 : cnt ts 1 ≤ 5) : fitsE (fuC n m) ts ds = if n < cnt ts 0 then 48 else 0 := by
  unfold fitsE
  rw [fu_loadE n m ts ds [] hn hl h24 ht hd (by simp), if_neg (by simp), fu_fullB n m ts ds hl ht hd h1]
  by_cases h : n < cnt ts 0
  · simp [h]
  · simp [h]
theorem fu_earlE (n m : Nat) (ts ds : List Int) (hn : n ≤ 24) (hl : ts.length = ds.length) (h24 : ts.length ≤ 24) (ht : ∀ t ∈ ts, t = 0 ∨ t = 1) (hd : ∀ p ∈ ds, 10 ≤ p ∧ p < 30) (h1 : cnt ts 1 ≤ 5) (h0 : cnt ts 0 = n) : earlE (fuC n m) ts ds 0 = 0 := by
  unfold earlE
  rw [fu_loadE n m ts ds [0] hn hl h24 ht hd (by simp), if_neg (by simp), fu_fullB n m ts ds hl ht hd h1]
  simp [h0]
theorem fu_earlD (n m : Nat) (ts ds : List Int) (hn : n ≤ 24) (hl : ts.length = ds.length) (h24 : ts.length ≤ 24) (ht : ∀ t ∈ ts, t = 0 ∨ t = 1) (hd : ∀ p ∈ ds, 10 ≤ p ∧ p < 30) (h1 : cnt ts 1 ≤ 5) (h0 : cnt ts 0 = n) : earlD (fuC n m) ts ds 0 11 = if 0 < n then (40, true) else (0, false) := by
  unfold earlD
  rw [fu_earlE n m ts ds hn hl h24 ht hd h1 h0, if_neg (by simp)]
  have hN := fu_loadN n m ts ds hl hd
  have e0 : suitB (fuC n m) (loadN (fuC n m) (ts.zip ds)) (0 : Int).toNat 0 = false := by
    unfold suitB
    rw [hN]
    show (_ && decide (((cnt ts 0 : Nat) : Int) < (n : Int))) = false
    rw [h0]
    simp
  have e1 : suitB (fuC n m) (loadN (fuC n m) (ts.zip ds)) (0 : Int).toNat 1 = decide (0 < n) := by
    unfold suitB
    rw [hN]
    show (_ && decide (((cnt ts 8 : Nat) : Int) < (n : Int))) = decide (0 < n)
    rw [cnt_big ht 8 (by omega)]
    simp [fuC]
  show firstD 11 _ 0 [⟨10, 30, _, [0, 1]⟩, ⟨40, 50, _, [0]⟩] = _
  rw [firstD, firstD, firstD, if_neg (by rw [e0]; simp), e1]
  by_cases h : 0 < n
  · simp [h]; decide
  · simp [h]

def dsF (d n : Nat) : List Int := (List.range n).map fun i => 10 + (((i + d) % 20 : Nat) : Int)
theorem dsF_succ (d k : Nat) : dsF d (k + 1) = dsF d k ++ [10 + (((k + d) % 20 : Nat) : Int)] := by simp [dsF, List.range_succ]
theorem dsF_len (d k : Nat) : (dsF d k).length = k := by simp [dsF]
theorem dsF_in (d k : Nat) : ∀ p ∈ dsF d k, 10 ≤ p ∧ p < 30 := by
  intro p hp
  simp only [dsF, List.mem_map, List.mem_range] at hp
  obtain ⟨i, _, rfl⟩ := hp
  omega
def tsF (n k : Nat) : List Int := List.replicate n 0 ++ List.replicate k 1
def dsK (d n k : Nat) : List Int := dsF d n ++ List.replicate k 29
theorem tsF_in (n k : Nat) : ∀ t ∈ tsF n k, t = 0 ∨ t = 1 := by
  intro t ht
  rcases List.mem_append.1 ht with h | h
  · exact .inl (List.eq_of_mem_replicate h)
  · exact .inr (List.eq_of_mem_replicate h)
theorem dsK_in (d n k : Nat) : ∀ p ∈ dsK d n k, 10 ≤ p ∧ p < 30 := by
  intro p hp
  rcases List.mem_append.1 hp with h | h
  · exact dsF_in d n p h
  · have := List.eq_of_mem_replicate h
    omega
theorem tsF_len (n k : Nat) : (tsF n k).length = n + k := by simp [tsF]
theorem dsK_len (d n k : Nat) : (dsK d n k).length = n + k := by simp [dsK, dsF_len]
theorem cnt_tsF0 (n k : Nat) : cnt (tsF n k) 0 = n := by simp [cnt, tsF, List.filter_replicate]
theorem cnt_tsF1 (n k : Nat) : cnt (tsF n k) 1 = k := by simp [cnt, tsF, List.filter_replicate]
theorem tsF_zero (n : Nat) : tsF n 0 = List.replicate n 0 := by simp [tsF]
theorem dsK_zero (d n : Nat) : dsK d n 0 = dsF d n := by simp [dsK]
theorem tsF_succ (n k : Nat) : tsF n (k + 1) = tsF n k ++ [1] := by simp [tsF, List.replicate_succ']
theorem dsK_succ (d n k : Nat) : dsK d n (k + 1) = dsK d n k ++ [29] := by simp [dsK, List.replicate_succ']
theorem tsF_succ0 (n : Nat) : tsF (n + 1) 0 = tsF n 0 ++ [0] := by simp [tsF, List.replicate_succ']
theorem dsK_succ0 (d n : Nat) : dsK d (n + 1) 0 = dsK d n 0 ++ [10 + (((n + d) % 20 : Nat) : Int)] := by simp [dsK, dsF_succ]
/-- one change too many -/
theorem fu_over (n m d : Nat) (hn : n ≤ 23) : fitsE (fuC n m) (tsF n 0 ++ [0]) (dsK d n 0 ++ [12]) = 48 := by
  rw [fu_fits n m _ _ (by omega) (by simp [tsF_len, dsK_len]) (by simp [tsF_len]; omega) ?_ ?_ ?_, if_pos]
  · rw [← tsF_succ0, cnt_tsF0]; omega
  · rw [← tsF_succ0]; exact tsF_in _ _
  · intro p hp
    rcases List.mem_append.1 hp with h | h
    · exact dsK_in _ _ _ p h
    · rw [List.mem_singleton] at h; omega
  · rw [← tsF_succ0, cnt_tsF1]; omega
theorem fu_under (n m d k : Nat) (hn : n + k ≤ 24) (hk : k ≤ 5) : fitsE (fuC n m) (tsF n k) (dsK d n k) = 0 := by
  rw [fu_fits n m _ _ (by omega) (by simp [tsF_len, dsK_len]) (by simp [tsF_len]; omega) (tsF_in _ _) (dsK_in _ _ _) (by rw [cnt_tsF1]; omega), if_neg]
  rw [cnt_tsF0]; omega
theorem fu_nextE (n m d k : Nat) (hn : n + k ≤ 24) (hk : k ≤ 5) : earlE (fuC n m) (tsF n k) (dsK d n k) 0 = 0 :=
  fu_earlE n m _ _ (by omega) (by simp [tsF_len, dsK_len]) (by simp [tsF_len]; omega) (tsF_in _ _) (dsK_in _ _ _) (by rw [cnt_tsF1]; omega) (cnt_tsF0 _ _)
theorem fu_nextD (n m d k : Nat) (hn : n + k ≤ 24) (hk : k ≤ 5) : earlD (fuC n m) (tsF n k) (dsK d n k) 0 11 = if 0 < n then (40, true) else (0, false) :=
  fu_earlD n m _ _ (by omega) (by simp [tsF_len, dsK_len]) (by simp [tsF_len]; omega) (tsF_in _ _) (dsK_in _ _ _) (by rw [cnt_tsF1]; omega) (cnt_tsF0 _ _)
end Go.Proofs.Ytpbahffkhpfakaa


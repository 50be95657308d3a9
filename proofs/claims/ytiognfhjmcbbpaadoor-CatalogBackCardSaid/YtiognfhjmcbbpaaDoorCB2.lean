import Derived.Test.YtiognfhjmcbbpaaDoorCB1
import Derived.Test.YtiognfhjmcbbpaaDoorCPa2
namespace Go.Proofs.YtiognfhjmcbbpaaDoor.Ev
open Go.RowKit
set_option linter.unusedSimpArgs false
set_option linter.unusedVariables false

/-! ## Parse of the texts of uses -/

def findR : Nat → ByteArray → Nat → Nat
  | 0, _, _ => 0
  | f + 1, s, i => if i < 23 then (if 1 ≤ i ∧ (algRow i).1 = s then i else findR f s (i + 1)) else 0
theorem findR_eq (s : ByteArray) : ∀ (f i : Nat), 23 - i < f → findFrom s i = findR f s i
  | 0, i, h => absurd h (by omega)
  | f + 1, i, h => by
    unfold findFrom findR
    by_cases h1 : i < 23
    · rw [dif_pos h1, if_pos h1]
      by_cases h2 : 1 ≤ i ∧ (algRow i).1 = s
      · rw [if_pos h2, if_pos h2]
      · rw [if_neg h2, if_neg h2]
        exact findR_eq s f (i + 1) (by omega)
    · rw [dif_neg h1, if_neg h1]
def codeR : Nat → ByteArray → Nat → Nat
  | 0, _, _ => 0
  | f + 1, s, i => if i < 17 then (if 1 ≤ i ∧ (suRow i).nm = s then i else codeR f s (i + 1)) else 0
theorem codeR_eq (s : ByteArray) : ∀ (f i : Nat), 17 - i < f → codeFrom s i = codeR f s i
  | 0, i, h => absurd h (by omega)
  | f + 1, i, h => by
    unfold codeFrom codeR
    by_cases h1 : i < 17
    · rw [dif_pos h1, if_pos h1]
      by_cases h2 : 1 ≤ i ∧ (suRow i).nm = s
      · rw [if_pos h2, if_pos h2]
      · rw [if_neg h2, if_neg h2]
        exact codeR_eq s f (i + 1) (by omega)
    · rw [dif_neg h1, if_neg h1]
def cutS (s : ByteArray) : List UInt8 × List UInt8 × Bool := Lib.cut s.data.toList [45]
def parseK (s : ByteArray) : Nat := findR 24 (if (cutS s).2.2 = true then ⟨(cutS s).1.toArray⟩ else s) 0
def parseN (s : ByteArray) : Int := if (cutS s).2.2 = true then (Lib.atoi (cutS s).2.1).getD 0 else 0
def okS (s : ByteArray) : Prop := s.size < 4294967281 ∧ 0 < strF (parseK s) (parseN s) ∧ textF (parseK s) (parseN s) = s ∧
  if (cutS s).2.2 = true then (cutS s).2.1.length ≤ 18 ∧ Lib.atoi (cutS s).2.1 = some (parseN s) ∧ -9223372036854775808 ≤ parseN s ∧ parseN s ≤ 9223372036854775807 else cutS s = (s.data.toList, [], false)
instance (s : ByteArray) : Decidable (okS s) := by unfold okS; exact inferInstance
def FParse : List C → Option C
  | [.v (.string s)] => if okS s then some (.tup [.agg [.v (.int .i64 (parseK s : Nat)), .v (.int .i64 (parseN s))], .v (.int .i64 0)]) else none
  | _ => none
theorem parse_calls (s : ByteArray) (h : okS s) (w : World) (hi : Inv w) :
    Calls Tryd.prog 9 #[.string s] w fun e w' => e = .returned (.tuple #[.agg #[.int .i64 (parseK s : Nat), .int .i64 (parseN s)], .int .i64 0]) ∧ Below w.heap.size w w' := by
  obtain ⟨h1, h2, h3, h4⟩ := h
  by_cases hc : (cutS s).2.2 = true
  · rw [if_pos hc] at h4
    obtain ⟨h5, h6, h7⟩ := h4
    refine parse_of s ⟨(cutS s).1.toArray⟩ ⟨(cutS s).2.1.toArray⟩ (parseK s) (parseN s) w hi.env hi.mx h1 ?_ ?_ ?_ ?_ h7 h2 h3
    · show cutS s = _
      simp only [List.toList_toArray]
      rw [← hc]
    · rw [findR_eq _ 24 0 (by decide)]
      unfold parseK
      rw [if_pos hc]
    · simpa [ByteArray.size] using h5
    · simpa using h6
  · rw [if_neg hc] at h4
    have hn : parseN s = 0 := if_neg hc
    rw [hn] at h2 h3 ⊢
    refine parse_none s (parseK s) w hi.env hi.mx hi.er h1 h4 ?_ h2 h3
    rw [findR_eq _ 24 0 (by decide)]
    unfold parseK
    rw [if_neg hc]
theorem spec_parse : SpecP Tryd.prog GC 9 FParse := by
  intro args r hr
  unfold FParse at hr
  split at hr
  · rename_i s
    split at hr
    · rename_i hok
      simp at hr; subst hr
      refine ⟨enters_of Tryd.func9 rfl rfl, rfl, fun S0 T0 w vs hG hv => ?_⟩
      rw [rvs1 hv]
      refine (parse_calls s hok w hG.inv).mono fun e w' ⟨h1, h2⟩ => ⟨_, h1, h2, ?_⟩
      refine ⟨_, rfl, rfl, fun i c hi => ?_⟩
      match i, hi with
      | 0, hi =>
        cases hi
        refine ⟨_, rfl, rfl, fun j d hj => ?_⟩
        match j, hj with
        | 0, hj => cases hj; exact ⟨rfl, rfl⟩
        | 1, hj => cases hj; exact ⟨rfl, rfl⟩
        | j + 2, hj => simp at hj
      | 1, hi => cases hi; exact ⟨rfl, rfl⟩
      | i + 2, hi => simp at hi
    · cases hr
  · cases hr

/-! ### the uses that dice give -/

def usesOf (al : Int) : List Int := if (sizesOf al).length = 0 then [0] else sizesOf al
theorem dOf_mem {xs l : List Int} {a : Nat} (h : 0 < xs.length ∧ xs.length ≤ 1000) : dOf xs l a ∈ xs := by
  unfold dOf
  obtain ⟨q1, q2⟩ := dNext_lt (l := l) (a := a) (k := (xs.length : Int)) (by omega) (by omega)
  have hj : (dNext l a xs.length).toNat < xs.length := by omega
  rw [List.getD_eq_getElem?_getD, List.getElem?_eq_getElem hj]
  exact List.getElem_mem hj
theorem sizes_len (al : Int) : (sizesOf al).length ≤ 1000 := by
  unfold sizesOf
  repeat' split
  all_goals decide
theorem dSize_mem (al : Int) (l : List Int) (a : Nat) : (dSize al l a).1 ∈ usesOf al := by
  unfold dSize usesOf
  split
  · simp
  · rename_i h
    exact dOf_mem ⟨Nat.pos_of_ne_zero h, sizes_len al⟩
def goodU (al b : Int) : Prop := okS (textF al b) ∧ (parseK (textF al b) : Int) = al ∧ parseN (textF al b) = b ∧ 0 < strF al b ∧ -9223372036854775808 ≤ b ∧ b ≤ 9223372036854775807
instance (al b : Int) : Decidable (goodU al b) := by unfold goodU; exact inferInstance
set_option maxRecDepth 100000 in
theorem good_all : ∀ i : Fin 22, ∀ b ∈ usesOf ((i.val : Int) + 1), goodU ((i.val : Int) + 1) b := by decide +kernel
theorem good_use (l : List Int) (a : Nat) : goodU (dUse l a).1 (dUse l a).2.1 := by
  obtain ⟨q1, q2⟩ := dNext_lt (l := l) (a := a) (k := 22) (by decide) (by decide)
  have h := good_all ⟨(dNext l a 22).toNat, by omega⟩ (dSize (1 + dNext l a 22) l (dAt l a)).1
  have e : (((dNext l a 22).toNat : Nat) : Int) + 1 = 1 + dNext l a 22 := by omega
  simp only [e] at h
  exact h (dSize_mem _ _ _)
theorem name_good : ∀ i : Fin 22, findR 24 (nameF ((i.val : Int) + 1)) 0 = i.val + 1 ∧ 1 ≤ kindF ((i.val : Int) + 1) ∧ kindF ((i.val : Int) + 1) ≤ 5 := by decide +kernel
theorem row_good : ∀ i : Fin 16, codeR 18 (suRow (i.val + 1)).nm 0 = i.val + 1 ∧ (suRow (i.val + 1)).l ≤ (suRow (i.val + 1)).m ∧ 0 < strF (suRow (i.val + 1)).e (suRow (i.val + 1)).f ∧ 0 < strF (suRow (i.val + 1)).g (suRow (i.val + 1)).h := by decide +kernel
end Go.Proofs.YtiognfhjmcbbpaaDoor.Ev

import Derived.Test.YtpbahffkhpfakaaWClo
import Derived.Test.YtpbahffkhpfakaaWCat
import Derived.OpenShut
import Derived.Lib.SmallJoins
import Derived.ChangeArms
import Derived.Deep.Slices
namespace Go.Proofs.Ytpbahffkhpfakaa
open Go.RowKit Go.ChangeShapes Go.WideShapes Go.Deep
set_option linter.unusedSimpArgs false
set_option linter.unusedVariables false

/-! ## A calendar that came in -/

theorem addr_plain {w : World} {x : Addr} {v : Value} (h : w.cell? x = some v) : x = ⟨x.block, x.off, none⟩ ∧ x.block < w.heap.size := by
  obtain ⟨b, o, s⟩ := x
  unfold World.cell? at h
  simp only at h
  refine ⟨?_, ?_⟩
  · split at h
    · by_cases h1 : s.isSome
      · rw [if_pos h1] at h; cases h
      · cases hx : s with
        | none => rfl
        | some _ => rw [hx] at h1; simp at h1
    · cases h
  · by_cases h1 : b < w.heap.size
    · exact h1
    · rw [Array.getElem?_eq_none (by omega)] at h; cases h
theorem add_plain (b o i : Nat) : (⟨b, o, none⟩ : Addr).add i = ⟨b, o + i, none⟩ := by
  unfold Addr.add
  by_cases h1 : i = 0
  · rw [if_pos h1, h1]; rfl
  · rw [if_neg h1]

section
variable {H : Type} {enc : TypeId × Value → H} {w : World} {base : Nat} {spare : Nat → Bool} {held : Bool} {fuel : Nat} {cs : List Value} {x : DataW H × List MemPlace}
theorem open_int1 (h : DataW.trod enc Try.prog w base spare held fuel 3 cs = some x) : ∃ n : Int, cs = [.int .i64 n] := by
  obtain ⟨n, e, _⟩ := DataW.trod_int Try.underlying3 h
  exact ⟨n, e⟩
theorem open_ints_at (h : DataW.trod enc Try.prog w base spare held fuel 22 cs = some x) : ∃ v l, cs = [v] ∧ IntsAt w v l ∧ NilOk v := by
  rcases open_slice1 Try.underlying22 (by kernel_rfl) h with ⟨rfl, _⟩ | ⟨a, len, cap, m, n, V, D, Pl, rfl, hb, hl, hm, hmm, rfl, hx⟩
  · exact ⟨_, [], rfl, IntsAt.nil w, fun n c e => by simp only [Value.slice.injEq] at e; omega⟩
  · have hlm : len ≤ m := by rw [hmm]; split <;> omega
    obtain ⟨N, hN⟩ := choose_lt (α := Int) (p := fun i z => w.cell? (a.add i) = some (.int .i64 z)) (n := len) (fun i hi => by
      obtain ⟨h1, h2⟩ := hx i (by omega)
      obtain ⟨z, hz⟩ := open_int1 h2
      rw [List.cons.injEq] at hz
      exact ⟨z, by rw [h1, hz.1]⟩)
    refine ⟨_, (List.range len).map N, rfl, ⟨by rw [List.length_map, List.length_range]; unfold maxLen at hm; omega, some a, cap, by simp, ?_⟩, fun n c e => by simp at e⟩
    by_cases h0 : len = 0
    · left; rw [h0]; rfl
    · right
      have hp := addr_plain (hN 0 (by omega))
      rw [show a.add 0 = a from rfl] at hp
      refine ⟨a.block, a.off, by rw [← hp.1], hp.2, fun j hj => ?_⟩
      have hj' : j < len := by simpa using hj
      have hc := hN j hj'
      rw [hp.1, add_plain] at hc
      simpa using hc
theorem open_span (h : DataW.trod enc Try.prog w base spare held fuel 56 cs = some x) : ∃ a b : Int, cs = [.int .i64 a, .int .i64 b] := by
  obtain ⟨xs, n, _, _, hl, hlen, hfs⟩ := DataW.trod_struct Try.underlying56 h
  have hC : Try.prog.cellsOf 56 = 2 := by kernel_rfl
  have hI : Try.prog.cellsOf 3 = 1 := by kernel_rfl
  rw [hC] at hl
  match cs, hl with
  | [c0, c1], _ =>
    match xs, hlen with
    | [x0, x1], _ =>
      have h0 := hfs 0 _ rfl
      have h1 := hfs 1 _ rfl
      simp [hI] at h0 h1
      obtain ⟨a, ea⟩ := open_int1 h0
      obtain ⟨b, eb⟩ := open_int1 h1
      simp at ea eb
      exact ⟨a, b, by rw [ea, eb]⟩
theorem open_win (h : DataW.trod enc Try.prog w base spare held fuel 58 cs = some x) : ∃ y : Win, cs = y.cells ∧ IntsAt w y.tv y.ts := by
  obtain ⟨xs, n, _, _, hl, hlen, hfs⟩ := DataW.trod_struct Try.underlying58 h
  have hC : Try.prog.cellsOf 58 = 3 := by kernel_rfl
  have hS : Try.prog.cellsOf 56 = 2 := by kernel_rfl
  have hI : Try.prog.cellsOf 22 = 1 := by kernel_rfl
  rw [hC] at hl
  match cs, hl with
  | [c0, c1, c2], _ =>
    match xs, hlen with
    | [x0, x1], _ =>
      have h0 := hfs 0 _ rfl
      have h1 := hfs 1 _ rfl
      simp [hI, hS] at h0 h1
      obtain ⟨a, b, ea⟩ := open_span h0
      obtain ⟨v, l, ev, hv, _⟩ := open_ints_at h1
      simp at ea ev
      exact ⟨⟨a, b, v, l⟩, by simp [Win.cells, ea, ev], hv⟩
instance : Inhabited Win := ⟨⟨0, 0, .slice none 0 0, []⟩⟩
theorem open_wins (h : DataW.trod enc Try.prog w base spare held fuel 23 cs = some x) : ∃ v l, cs = [v] ∧ WinsAt w v l ∧ NilOk v := by
  have hC : Try.prog.cellsOf 58 = 3 := by kernel_rfl
  rcases open_slice Try.underlying23 h with ⟨rfl, _⟩ | ⟨a, len, cap, m, n, D, Pl, rfl, hb, hl, hm, hmm, rfl, hx⟩
  · exact ⟨_, [], rfl, ⟨by simp, ⟨none, 0, rfl, .inl rfl⟩, fun x hx => by simp at hx⟩, fun n c e => by simp only [Value.slice.injEq] at e; omega⟩
  · have hlm : len ≤ m := by rw [hmm]; split <;> omega
    obtain ⟨N, hN⟩ := choose_lt (α := Win) (p := fun i y => IntsAt w y.tv y.ts ∧ w.cell? (a.add (i * 3)) = some (.int .i64 y.frm) ∧ w.cell? ((a.add (i * 3)).add 1) = some (.int .i64 y.til) ∧ w.cell? ((a.add (i * 3)).add 2) = some y.tv) (n := len) (fun i hi => by
      obtain ⟨cs', h1, h2⟩ := hx i (by omega)
      rw [hC] at h1
      obtain ⟨_, hl3, hcell⟩ := World.cells?_some h1
      obtain ⟨y, rfl, hy⟩ := open_win h2
      exact ⟨y, hy, hcell 0 (by decide), hcell 1 (by decide), hcell 2 (by decide)⟩)
    refine ⟨_, (List.range len).map N, rfl, ⟨by rw [List.length_map, List.length_range]; unfold maxLen at hm; omega, ⟨some a, cap, by simp, ?_⟩, fun y hy => ?_⟩, fun n c e => by simp at e⟩
    · by_cases h0 : len = 0
      · left; rw [h0]; rfl
      · right
        have hp := addr_plain (hN 0 (by omega)).2.1
        rw [show 0 * 3 = 0 from rfl, show a.add 0 = a from rfl] at hp
        refine ⟨a.block, a.off, by rw [← hp.1], hp.2, fun j hj => ?_⟩
        have hj' : j < len := by simpa using hj
        obtain ⟨_, c0, c1, c2⟩ := hN j hj'
        rw [hp.1] at c0 c1 c2
        simp only [add_plain] at c0 c1 c2
        refine ⟨?_, ?_, ?_⟩
        · simpa using c0
        · simpa using c1
        · simpa using c2
    · rw [List.mem_map] at hy
      obtain ⟨i, hi, rfl⟩ := hy
      exact (hN i (by simpa using hi)).1
end
/-- a calendar that came in -/
theorem open_cal {H : Type} {enc : TypeId × Value → H} {w : World} {base b0 : Nat} {spare : Nat → Bool} {held : Bool} {r : Reach} {v : Value} {d : DataW H} {p : List MemPlace}
    (hv : Value.okWide Try.prog w r b0 25 v) (h : DataW.Trod enc Try.prog w base spare held 25 v d p) :
    ∃ c : Cal, v = c.val ∧ CalAt w c := by
  obtain ⟨cs, rfl, hsz⟩ := okWide_struct Try.underlying25 hv
  have hC : Try.prog.cellsOf 25 = 3 := by kernel_rfl
  have hI : Try.prog.cellsOf 22 = 1 := by kernel_rfl
  have hW : Try.prog.cellsOf 23 = 1 := by kernel_rfl
  obtain ⟨fuel, hf⟩ := h
  obtain ⟨xs, n, _, _, hl, hlen, hfs⟩ := DataW.trod_struct Try.underlying25 hf
  rw [hC] at hsz
  obtain ⟨l⟩ := cs
  match l, hsz with
  | [c0, c1, c2], _ =>
    match xs, hlen with
    | [x0, x1, x2], _ =>
      have h0 := hfs 0 _ rfl
      have h1 := hfs 1 _ rfl
      have h2 := hfs 2 _ rfl
      simp [Value.cells, hI, hW] at h0 h1 h2
      obtain ⟨v0, l0, e0, k0, _⟩ := open_wins h0
      obtain ⟨v1, l1, e1, k1, _⟩ := open_ints_at h1
      obtain ⟨v2, l2, e2, k2, _⟩ := open_ints_at h2
      simp at e0 e1 e2
      subst e0 e1 e2
      exact ⟨⟨l0, l1, l2, _, _, _⟩, rfl, k0, k1, k2⟩
end Go.Proofs.Ytpbahffkhpfakaa

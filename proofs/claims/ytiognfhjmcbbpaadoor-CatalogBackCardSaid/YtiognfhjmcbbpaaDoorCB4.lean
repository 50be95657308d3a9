import Derived.Test.YtiognfhjmcbbpaaDoorCB3
import Derived.Test.YtiognfhjmcbbpaaDoorCEG
import Derived.Test.YtiognfhjmcbbpaaDoorCEnv
import Derived.ChangeSlices
import Derived.WideShapes
import Derived.WalkKit
import Derived.ProofKit
import Derived.OpenShut
import Derived.Below
import Derived.ChangeOld
namespace Go.Proofs.YtiognfhjmcbbpaaDoor.Ev
open Go.RowKit Go.ChangeShapes Go.WideShapes
set_option linter.unusedSimpArgs false
set_option linter.unusedVariables false

/-! ## A list of numbers that comes in, as a reading; the law CatalogBack as a call -/

theorem okWide_spot {P : Program} {w : World} {r : Reach} {base : Nat} {t e : TypeId} {a : Addr} {len cap : Nat} (ht : P.underlying t = some (.slice e)) (h : Value.okWide P w r base t (.slice (some a) len cap)) : a.spot = none := by
  simp only [Value.okWide, ht, Cell.okWide, Cell.ok, World.has] at h
  exact h.2.2.2.1
theorem cellsI : Tryd.prog.cellsOf 3 = 1 := by kernel_rfl
set_option maxRecDepth 100000 in
theorem arg_ints {W : World} {base : Nat} {v : Value} {H : Type} {enc : TypeId × Value → H} {fuel : Nat} {x : DataW H × List MemPlace}
    (hv : Value.okWide Tryd.prog W .any base 40 v) (h : DataW.trod enc Tryd.prog W 0 (fun _ => true) true fuel 40 v.cells.toList = some x) :
    ∃ nl zs, Rv (allM W) v (.sl nl (codInt.encL zs)) := by
  obtain ⟨a, len, cap, rfl⟩ := okWide_slice Tryd.underlying40 hv
  rcases open_ints Tryd.underlying40 Tryd.underlying3 cellsI h with ⟨hcs, _⟩ | ⟨p, l, c, zs, hcs, _, hl, hm, hz, _, hcell, hwz⟩
  · simp [Value.cells] at hcs
    obtain ⟨rfl, rfl, rfl⟩ := hcs
    exact ⟨true, [], .nil⟩
  · simp [Value.cells] at hcs
    obtain ⟨rfl, rfl, rfl⟩ := hcs
    have hs := okWide_spot Tryd.underlying40 hv
    obtain ⟨b, off, spot⟩ := p
    simp only at hs
    subst hs
    simp only [if_true] at hz
    have hadd : ∀ i, (⟨b, off, none⟩ : Addr).add i = ⟨b, off + i, none⟩ := fun i => by
      unfold Addr.add
      split
      · rename_i e; subst e; rfl
      · rfl
    refine ⟨false, zs.take len, .sl b off len cap 1 _ (fun i => .int .i64 (zs.getD i 0)) (by rw [codInt.len, List.length_take]; omega) (by omega) hl ?_ ?_ ?_⟩
    · intro r hr
      obtain ⟨z, _, rfl⟩ := List.mem_map.1 hr
      rfl
    · intro i hi
      have h1 := hcell i (by omega)
      rw [hadd] at h1
      exact ⟨all_S (World.block_lt_of_cell? W (a := ⟨b, off + i, none⟩) h1), h1⟩
    · intro i j r c hi hj
      rw [codInt.get, Option.map_eq_some_iff] at hi
      obtain ⟨z, hz1, rfl⟩ := hi
      have hi2 : i < len := by
        have := (List.getElem?_eq_some_iff.1 hz1).1
        rw [List.length_take] at this
        omega
      rw [List.getElem?_take, if_pos hi2] at hz1
      match j, hj with
      | 0, hj =>
        cases hj
        have e : zs.getD i 0 = z := by rw [List.getD_eq_getElem?_getD, hz1]; rfl
        rw [Nat.mul_one, Nat.add_zero]
        show Rd0 _ _ (.int .i64 (zs.getD i 0)) _
        rw [e]
        exact .v _ rfl
      | j + 1, hj => simp [codInt] at hj
theorem backLaw (v : Value) (nl : Bool) (l : List Int) (w : World) (hv : Rv (allM w) v (.sl nl (codInt.encL l))) (h : Inv w) : Calls Tryd.prog 5 #[v] w fun e w' => e = .returned (.bool true) ∧ Below w.heap.size w w' := by
  refine ((spec_back [.sl nl (codInt.encL l)] (.v (.bool true)) (by simp [FBack, codInt.deL])).2.2 (fun _ _ => True) (fun _ _ => True) w #[v] (gok_of h) ⟨rfl, fun i x hi => ?_⟩).mono ?_
  · match i, hi with
    | 0, hi => cases hi; exact hv
    | n + 1, hi => simp at hi
  · rintro e w' ⟨v, h1, h2, h3, _⟩
    subst h3
    exact ⟨h1, h2⟩
set_option maxRecDepth 100000 in
theorem err_of {w : World} (h : laidMet Tryd.prog Rows.catalogGrowsRow.laid w) : ErrAt w := by
  obtain ⟨g, t, cs, fuel, p, hg, hty, hvar, hd⟩ := rd_of h (n := "strconv.ErrSyntax") (d := Rows.laid_strconv_ErrSyntax) (.tail _ (.tail _ (.tail _ (.tail _ (.head _)))))
  obtain rfl := Option.some.inj ((show Tryd.prog.globalNamed "strconv.ErrSyntax" = some 3 from by kernel_rfl).symm.trans hg)
  obtain rfl := Option.some.inj ((show (Tryd.prog.globals[3]?).map (·.type) = some 54 from by kernel_rfl).symm.trans hty)
  have hc := World.var?_cell hg hvar 0
  cases fuel with
  | zero => simp [DataW.trod] at hd
  | succ fuel =>
    obtain ⟨ms, hu⟩ : ∃ ms, Tryd.prog.underlying 54 = some (.interface ms) := ⟨_, Tryd.underlying54⟩
    unfold DataW.trod at hd
    rw [hu] at hd
    generalize hl : cs.toList = L at hd
    have h0 : cs[0]? = L[0]? := by rw [← hl]; simp
    rw [h0] at hc
    rcases L with _ | ⟨x, _ | ⟨y, r⟩⟩
    · simp at hd
    · refine ⟨x, hc, ?_⟩
      cases x <;> simp_all
    · simp at hd
end Go.Proofs.YtiognfhjmcbbpaaDoor.Ev

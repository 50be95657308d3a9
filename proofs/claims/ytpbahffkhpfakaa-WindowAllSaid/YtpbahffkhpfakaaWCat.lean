import Derived.Test.YtpbahffkhpfakaaWArr
import Derived.Laws.AppendOwn
import Derived.Laws.AppendOwnNone
import Derived.Lib.AppendZerosOnto
import Derived.Lib.Walk
import Derived.OwnWalk
import Derived.LoopN
namespace Go.Proofs.Ytpbahffkhpfakaa
open Go.RowKit
set_option linter.unusedSimpArgs false
set_option linter.unusedVariables false

/-! ## slices.Concat of two lists of numbers -/

theorem infoInt : (Try.prog.info? 3).map (fun i => (i.zero, i.size, i.bytes)) = some (some (.int .i64 0), 1, 8) := by kernel_rfl
theorem undInts : Try.prog.underlying 22 = some (.slice 3) := by kernel_rfl
theorem undInt : Try.prog.underlying 3 = some (.int .i64) := by kernel_rfl
def intVals (l : List Int) : List Value := l.map (Value.int .i64)
def OwnInts (w : World) (base : Nat) (v : Value) (l : List Int) : Prop := w.ownsRow base 3 1 v l.length (intVals l)

theorem OwnInts.at {w : World} {base : Nat} {v : Value} {l : List Int} (h : OwnInts w base v l) (hl : l.length ≤ 1000) : IntsAt w v l := by
  rcases h.2 with ⟨h1, h0⟩ | ⟨g, cap, cur, h1, hb, hg, _⟩
  · exact ⟨by omega, none, 0, by rw [h1, h0], .inl (List.eq_nil_of_length_eq_zero h0)⟩
  · refine ⟨by omega, some ⟨g, 0, none⟩, cap, h1, .inr ⟨g, 0, rfl, (Array.getElem?_eq_some_iff.1 hg).1, fun j hj => ?_⟩⟩
    have hc := World.ownsRow.cells h (g := g) (by rw [h1]; rfl) j (.int .i64 l[j]) (by simp [intVals, hj])
    have hp' : (⟨g, 0, none⟩ : Addr).add j = ⟨g, 0 + j, none⟩ := by unfold Addr.add; split <;> simp_all
    rwa [hp'] at hc

def NilOk (v : Value) : Prop := ∀ n c, v = .slice none n c → c = 0

theorem append_ints {ops : Array Oper} {rest : List Oper} {o : Oper} {a : Act} {w : World} {Q : Exit → Act → World → Prop} (hgd : o.guard = none) (s x : Operand)
    (ho : o.op = .call { callee := .builtin .append, args := #[s, x], argTypes := #[22, 22] })
    (base : Nat) (v xv : Value) (l l2 : List Int) (hs : a.eval s = v) (hx : a.eval x = xv) (hown : OwnInts w base v l) (hx2 : IntsAt w xv l2) (hnil : NilOk xv) (hlen : l.length + l2.length ≤ 1000) (hbase : base ≤ w.heap.size)
    (h : ∀ v' w', OwnInts w' base v' (l ++ l2) → w.grownBy w' v.ownBlock → wpList Try.prog ops Q rest (a.put o.dst v') w') : wpList Try.prog ops Q (o :: rest) a w := by
  have hi := infoInt
  cases hq : Try.prog.info? 3 with
  | none => simp [hq] at hi
  | some i =>
    rw [hq] at hi
    simp only [Option.map_some, Option.some.injEq, Prod.mk.injEq] at hi
    obtain ⟨hz, hsz, hby⟩ := hi
    obtain ⟨_, ad, cap, rfl, hc⟩ := hx2
    cases ad with
    | none =>
      have hc0 : cap = 0 := hnil _ _ rfl
      have hl0 : l2 = [] := by
        rcases hc with h | ⟨b, off, h, _⟩
        · exact h
        · cases h
      subst hl0 hc0
      refine wpList_append_own_none hgd s x 22 ho base 3 i 1 undInts hq v l.length (intVals l) hs hown hx ?_
      refine h v w (by rw [List.append_nil]; exact hown) ⟨rfl, rfl, rfl, Nat.le_refl _, fun _ _ _ => rfl⟩
    | some ad =>
      refine wpList_append_own w hgd s x 22 ho base 3 i (.int .i64 0) 1 8 undInts hq hz hsz hby rfl (by decide) v l.length (intVals l) hs hown ad l2.length cap (intVals l2) hx (by simp [intVals]) ?_ ?_ (by unfold maxLen; omega) (by omega) hbase ?_
      · intro j u hu
        have hj : j < l2.length := by
          have := (List.getElem?_eq_some_iff.1 hu).1
          simpa [intVals] using this
        rcases hc with rfl | ⟨b, off, hab, hbs, hcc⟩
        · simp at hj
        · simp only [Option.some.injEq] at hab
          subst hab
          have hp' : (⟨b, off, none⟩ : Addr).add j = ⟨b, off + j, none⟩ := by unfold Addr.add; split <;> simp_all
          rw [hp', hcc j hj, ← hu]
          simp [intVals, hj]
      · intro u hu
        simp only [intVals, List.mem_map] at hu
        obtain ⟨z, _, rfl⟩ := hu
        rfl
      · intro v' w' h1 h2 _
        refine h v' w' ?_ h2
        unfold OwnInts
        rw [List.length_append, show intVals (l ++ l2) = intVals l ++ intVals l2 from by simp [intVals]]
        exact h1

set_option maxHeartbeats 4000000 in
set_option maxRecDepth 100000 in
theorem grow_nil (n : Nat) (w : World) (hn : n ≤ 1000) :
    Calls Try.prog 68 #[.slice none 0 0, .int .i64 n] w fun e w' => ∃ v, e = .returned v ∧ OwnInts w' w.heap.size v [] ∧ Below w.heap.size w w' := by
  have h1 : ¬ ((n : Int) < 0) := by omega
  have h3 : IntKind.i64.wrap (n : Int) = (n : Int) := IntWalk.i64_in _ (by omega)
  rcases Nat.eq_zero_or_pos n with h0 | h0
  · subst h0
    go_enter Try.func68, Try.ntmps68
    go_wp2
    go_ret
    exact ⟨_, rfl, World.ownsRow_nil _ _ _ _, Below.refl _ _⟩
  · have hi := infoInt
    cases hq : Try.prog.info? 3 with
    | none => simp [hq] at hi
    | some i =>
      rw [hq] at hi
      simp only [Option.map_some, Option.some.injEq, Prod.mk.injEq] at hi
      obtain ⟨hz, hsz, hby⟩ := hi
      have hold : (Builtin.firstCells i.size 0 (.slice none 0 0)).run Try.prog w.drew = .ok #[] w.drew := run_firstCells_none w.drew i.size 0 0 0
      have hrz : ∀ ty, (Builtin.append_ #[22, 3] ty #[.slice none 0 0, .int .i64 (n : Int)]).run Try.prog w =
          .ok (.slice (some ⟨w.heap.size, 0, none⟩) n (grownCap w n 0 3)) (w.drew.alloc (.cells (#[] ++ Builtin.zeroCells (Value.int .i64 0).cells n ++ Builtin.zeroCells (Value.int .i64 0).cells (grownCap w n 0 3 - n)) 3)) := fun ty => by
        have h := Lib.run_append_grow_zeros w 22 3 ty 3 i (.int .i64 0) .i64 .i64 undInts undInt hq hz none 0 0 [] hold n (by omega) (by omega) (by omega) (by omega)
          (by rw [hby]; omega)
          (by rw [hby]; simp only [Nat.zero_add]; exact growslice_fits (by omega) (by omega))
        simp only [Nat.zero_add] at h
        exact h
      have hGn : n ≤ grownCap w n 0 3 := grownCap_ge w _ _ _
      have hGm : grownCap w n 0 3 ≤ maxLen := grownCap_le_maxLen w n 0 3 (by unfold maxLen; omega)
      generalize grownCap w n 0 3 = G at hrz hGn hGm
      have hG63 : G ≤ 9223372036854775807 := by unfold maxLen at hGm; omega
      have FIN := Lib.hid (show ∀ V, V = .slice (some ⟨w.heap.size, 0, none⟩) 0 G → OwnInts (w.alloc (.cells (Builtin.zeroCells #[Value.int .i64 0] n ++ Builtin.zeroCells #[Value.int .i64 0] (G - n)) 3)).drew w.heap.size V [] ∧ Below w.heap.size w (w.alloc (.cells (Builtin.zeroCells #[Value.int .i64 0] n ++ Builtin.zeroCells #[Value.int .i64 0] (G - n)) 3)).drew from fun V hV => by
        subst hV
        refine ⟨?_, ((Below.refl _ w).alloc (Nat.le_refl _) _).drew⟩
        show (w.drew.alloc (.cells (Builtin.zeroCells #[Value.int .i64 0] n ++ Builtin.zeroCells #[Value.int .i64 0] (G - n)) 3)).ownsRow w.drew.heap.size 3 1 (.slice (some ⟨w.drew.heap.size, 0, none⟩) 0 G) 0 []
        exact World.ownsRow_made w.drew _ G (Nat.le_refl _) hGm (by
          simp only [Array.size_append, size_zeroCells]
          show n * 1 + (G - n) * 1 = G * 1
          omega))
      clear hold hz hsz hby hGm hq
      have h4 : (n : Int) > 0 := by omega
      go_enter Try.func68, Try.ntmps68
      go_wp2_with (at_builtin; refine Lib.wpList_append_run _ rfl _ _ _ _ rfl _ _ rfl rfl _ _ (hrz _) ?_)
      all_goals (go_ret; exact ⟨_, rfl, FIN.out _ rfl⟩)

theorem OwnInts.form {w : World} {base : Nat} {v : Value} {l : List Int} (h : OwnInts w base v l) : ∃ a m, v = .slice a l.length m := by
  rcases h.2 with ⟨rfl, h0⟩ | ⟨g, cap, _, rfl, _⟩
  · rw [h0]; exact ⟨_, _, rfl⟩
  · exact ⟨_, _, rfl⟩
theorem grown_below {w w' : World} {base : Nat} {v : Value} {l : List Int} (h : OwnInts w base v l) (hg : w.grownBy w' v.ownBlock) (hbase : base ≤ w.heap.size) : Below base w w' :=
  (Below.refl base w).grown hg hbase fun k hk => (h.lt k hk).1

set_option maxHeartbeats 8000000 in
set_option maxRecDepth 100000 in
theorem concat_int (b : Nat) (v1 v2 : Value) (l1 l2 : List Int) (w : World) (hb : b < w.heap.size) (c1 : w.cell? ⟨b, 0, none⟩ = some v1) (c2 : w.cell? ⟨b, 1, none⟩ = some v2) (h1 : IntsAt w v1 l1) (h2 : IntsAt w v2 l2) (n1 : NilOk v1) (n2 : NilOk v2) (hl : l1.length + l2.length ≤ 900) :
    Calls Try.prog 65 #[.slice (some ⟨b, 0, none⟩) 2 2] w fun e w' => ∃ v, e = .returned v ∧ IntsAt w' v (l1 ++ l2) ∧ Below w.heap.size w w' := by
  have HI := Lib.hid (fun W (hW : Below w.heap.size w W) => (⟨h1.below hW, h2.below hW, (hW.cell (p := ⟨b, 0, none⟩) hb).trans c1, (hW.cell (p := ⟨b, 1, none⟩) hb).trans c2⟩ : IntsAt W v1 l1 ∧ IntsAt W v2 l2 ∧ W.cell? ⟨b, 0, none⟩ = some v1 ∧ W.cell? ⟨b, 1, none⟩ = some v2))
  have N1 := Lib.hid n1
  have N2 := Lib.hid n2
  have HL := Lib.hid hl
  obtain ⟨a1, m1, rfl⟩ := h1.form
  obtain ⟨a2, m2, rfl⟩ := h2.form
  have s1 : wrap64 (l1.length : Int) = (l1.length : Int) := by unfold wrap64; omega
  have s2 : wrap64 ((l1.length : Int) + (l2.length : Int)) = (l1.length : Int) + (l2.length : Int) := by unfold wrap64; omega
  have g1 : ¬ ((l1.length : Int) < 0) := by omega
  have g2 : ¬ ((l1.length : Int) + (l2.length : Int) < 0) := by omega
  have HG := Lib.hid (fun W => show Calls Try.prog 68 #[.slice none 0 0, .int .i64 ((l1.length : Int) + (l2.length : Int))] W fun e w' => ∃ v, e = .returned v ∧ OwnInts w' W.heap.size v [] ∧ Below W.heap.size W w' from by
    have := grow_nil (l1.length + l2.length) W (by omega)
    rwa [show ((l1.length + l2.length : Nat) : Int) = (l1.length : Int) + (l2.length : Int) from by omega] at this)
  clear h1 h2 n1 n2 hl
  go_enter Try.func65, Try.ntmps65
  go_wp2_with fail
  refine wp_loop_rounds 3 ?_
  rw [rounds_succ]
  go_wp2_with fail
  rw [rounds_succ]
  go_wp2_with fail
  rw [rounds_succ]
  go_wp2_with fail
  refine (HG.out w).mono ?_
  rintro e w1 ⟨v0, rfl, hO, hb1⟩
  obtain ⟨a0, m0, rfl⟩ := hO.form
  obtain ⟨i1, i2, k1, k2⟩ := HI.out _ hb1
  have I1 := Lib.hid i1
  have O1 := Lib.hid hO
  have B1 := Lib.hid hb1
  clear i1 i2 hO hb1 s1 s2 g1 g2
  have hsz : w.heap.size ≤ w1.heap.size := B1.out.size
  go_wp2_with fail
  refine wp_loop_rounds 3 ?_
  rw [rounds_succ]
  go_wp2_with (at_builtin; refine append_ints rfl _ _ rfl w.heap.size _ _ [] l1 rfl rfl O1.out I1.out N1.out (by have := HL.out; simp; omega) hsz ?_; intro v1 w2 hO1 hg1; obtain ⟨a3, m3, rfl⟩ := hO1.form)
  have B2 := Lib.hid (B1.out.trans (grown_below O1.out hg1 hsz))
  have O2 := Lib.hid hO1
  clear hO1 hg1 k1 k2 hsz
  obtain ⟨i1, i2, k1, k2⟩ := HI.out _ B2.out
  have I2 := Lib.hid i2
  clear i1 i2
  have hsz2 : w.heap.size ≤ w2.heap.size := B2.out.size
  rw [rounds_succ]
  go_wp2_with (at_builtin; refine append_ints rfl _ _ rfl w.heap.size _ _ ([] ++ l1) l2 rfl rfl O2.out I2.out N2.out (by have := HL.out; simp; omega) hsz2 ?_; intro v2 w3 hO3 hg3)
  have B3 := Lib.hid (B2.out.trans (grown_below O2.out hg3 hsz2))
  have O3 := Lib.hid hO3
  clear hO3 hg3
  rw [rounds_succ]
  go_wp2_with fail
  go_ret
  refine ⟨v2, rfl, ?_, B3.out⟩
  have := O3.out.at (by have := HL.out; simp; omega)
  rwa [List.nil_append] at this
end Go.Proofs.Ytpbahffkhpfakaa

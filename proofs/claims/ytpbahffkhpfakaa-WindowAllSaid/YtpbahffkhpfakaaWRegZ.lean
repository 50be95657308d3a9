import Derived.Test.YtpbahffkhpfakaaWAwkZ
import Derived.Deep.RegionLaw
import Derived.Deep.CutRange
namespace Go
open Go.RowKit

theorem run_append_new_Ytpbahffkhpfakaa {P : Program} (w : World) (base : Nat) (t ty e : TypeId) (i : TypeInfo) (z : Value) (size bytes : Nat) (ht : P.underlying t = some (.slice e)) (hi : P.info? e = some i) (hz : i.zero = some z)
    (hsize : i.size = size) (hby : i.bytes = bytes) (hzs : z.cells.size = size) (hsz : 0 < size)
    (v : Value) (n : Nat) (xs : List Value) (hown : w.ownsRow base e size v n xs)
    (a : Addr) (m c : Nat) (news : List Value) (hl : news.length = m * size) (hnews : ∀ j u, news[j]? = some u → w.cell? (a.add j) = some u) (h1 : ∀ u ∈ news, u.oneCell' = true)
    (h63 : n + m ≤ maxLen) (hbytes : (n + m) * bytes ≤ 140737488355328) (hbase : base ≤ w.heap.size) :
    ∃ v' w', (Builtin.append_ #[t, t] ty #[v, .slice (some a) m c]).run P w = .ok v' w' ∧ w'.ownsRow base e size v' (n + m) (xs ++ news) ∧ w.grownBy w' v.ownBlock ∧
      (v'.ownBlock = v.ownBlock ∨ ∀ q, v'.ownBlock = some q → w.heap.size ≤ q) := by
  obtain ⟨v', w', hr, h2, h3, h4⟩ := run_append_own (P := P) w base t ty e i z size bytes ht hi hz hsize hby hzs hsz v n xs hown a m c news hl hnews h1 h63 hbytes hbase
  refine ⟨v', w', hr, h2, h3, ?_⟩
  rcases hown.2 with ⟨rfl, rfl⟩ | ⟨g, cap, cur, rfl, hbg, hg, hnc, hcm, hcs, htake⟩
  · obtain rfl : xs = [] := List.eq_nil_of_length_eq_zero (by simpa using hown.1)
    obtain ⟨v2, w2, hr2, k2, _, _⟩ := run_append_own (P := P) w w.heap.size t ty e i z size bytes ht hi hz hsize hby hzs hsz (.slice none 0 0) 0 [] (World.ownsRow_nil w _ e size) a m c news hl hnews h1 h63 hbytes (Nat.le_refl _)
    rw [hr] at hr2
    injection hr2 with e1 e2
    subst e1
    exact .inr fun q hq => (k2.lt q hq).1
  · by_cases hroom : n + m ≤ cap
    · subst hsize
      have hr3 := run_append_room (P := P) w t ty e i ht hi g n cap cur hg a m c news hl hnews h1 hroom (by rw [hl, hcs, ← Nat.add_mul]; exact Nat.mul_le_mul_right _ hroom)
      rw [hr] at hr3
      injection hr3 with e1 e2
      subst e1
      exact .inl rfl
    · have holds : ∀ j u, xs[j]? = some u → w.cell? ((⟨g, 0, none⟩ : Addr).add j) = some u := hown.cells (g := g) rfl
      obtain ⟨v2, w2, hr2, k2, _⟩ := run_append_arg_grows (P := P) w t ty e i z size bytes ht hi hz hsize hby hzs hsz ⟨g, 0, none⟩ n cap xs hown.1 holds a m c news hl hnews (by omega) h63 hbytes
      rw [hr] at hr2
      injection hr2 with e1 e2
      subst e1
      exact .inr fun q hq => (k2.lt q hq).1
end Go

namespace Go.Proofs.Ytpbahffkhpfakaa
open Go.RowKit
set_option linter.unusedSimpArgs false
set_option linter.unusedVariables false

/-! ## Rows of numbers that lie apart from each other -/

theorem run_append_ints (w : World) (base : Nat) (ty : TypeId) (v xv : Value) (l l2 : List Int) (hown : OwnInts w base v l) (hx2 : IntsAt w xv l2) (hnil : NilOk xv) (hlen : l.length + l2.length ≤ 1000) (hbase : base ≤ w.heap.size) :
    ∃ v' w', (Builtin.append_ #[22, 22] ty #[v, xv]).run Try.prog w = .ok v' w' ∧ OwnInts w' base v' (l ++ l2) ∧ w.grownBy w' v.ownBlock ∧ (v'.ownBlock = v.ownBlock ∨ ∀ q, v'.ownBlock = some q → w.heap.size ≤ q) := by
  have hi := infoInt
  cases hq : Try.prog.info? 3 with
  | none => simp [hq] at hi
  | some i =>
    rw [hq] at hi
    simp only [Option.map_some, Option.some.injEq, Prod.mk.injEq] at hi
    obtain ⟨hz, hsz, hby⟩ := hi
    obtain ⟨_, ad, cap, rfl, hc⟩ := hx2
    cases ad with
    | none =>
      have hc0 : cap = 0 := hnil _ _ rfl
      have hl0 : l2 = [] := by
        rcases hc with h | ⟨b, off, h, _⟩
        · exact h
        · cases h
      subst hl0 hc0
      have hrun := run_append_owned_none (P := Try.prog) (w := w) base 22 ty 3 i 1 undInts hq v l.length (intVals l) hown
      exact ⟨v, w, hrun, by rw [List.append_nil]; exact hown, ⟨rfl, rfl, rfl, Nat.le_refl _, fun _ _ _ => rfl⟩, .inl rfl⟩
    | some ad =>
      obtain ⟨v', w', h1, h2, h3, h4⟩ := run_append_new_Ytpbahffkhpfakaa (P := Try.prog) w base 22 ty 3 i (.int .i64 0) 1 8 undInts hq hz hsz hby rfl (by decide) v l.length (intVals l) hown ad l2.length cap (intVals l2) (by simp [intVals]) (by
        intro j u hu
        have hj : j < l2.length := by
          have := (List.getElem?_eq_some_iff.1 hu).1
          simpa [intVals] using this
        rcases hc with rfl | ⟨b, off, hab, hbs, hcc⟩
        · simp at hj
        · simp only [Option.some.injEq] at hab
          subst hab
          have hp' : (⟨b, off, none⟩ : Addr).add j = ⟨b, off + j, none⟩ := by unfold Addr.add; split <;> simp_all
          rw [hp', hcc j hj, ← hu]
          simp [intVals, hj]) (by
        intro u hu
        simp only [intVals, List.mem_map] at hu
        obtain ⟨z, _, rfl⟩ := hu
        rfl) (by unfold maxLen; omega) (by omega) hbase
      refine ⟨v', w', h1, ?_, h3, h4⟩
      unfold OwnInts
      rw [List.length_append, show intVals (l ++ l2) = intVals l ++ intVals l2 from by simp [intVals]]
      exact h2

def Apart (v u : Value) : Prop := ∀ g, v.ownBlock = some g → u.ownBlock ≠ some g
theorem Apart.symm {v u : Value} (h : Apart v u) : Apart u v := fun g h1 h2 => h g h2 h1
theorem Apart.nil (v : Value) : Apart (.slice none 0 0) v := fun g h => by cases h

structure Reg4 (W0 w : World) (a : Value) (la : List Int) (b : Value) (lb : List Int) (c : Value) (lc : List Int) (d : Value) (ld : List Int) : Prop where
  bel : Below W0.heap.size W0 w
  oa : OwnInts w W0.heap.size a la
  ob : OwnInts w W0.heap.size b lb
  oc : OwnInts w W0.heap.size c lc
  od : OwnInts w W0.heap.size d ld
  ab : Apart a b
  ac : Apart a c
  ad : Apart a d
  bc : Apart b c
  bd : Apart b d
  cd : Apart c d
section
variable {W0 w w' : World} {a b c d : Value} {la lb lc ld : List Int}
theorem Reg4.nil (W0 : World) : Reg4 W0 W0 (.slice none 0 0) [] (.slice none 0 0) [] (.slice none 0 0) [] (.slice none 0 0) [] :=
  ⟨Below.refl _ _, World.ownsRow_nil _ _ _ _, World.ownsRow_nil _ _ _ _, World.ownsRow_nil _ _ _ _, World.ownsRow_nil _ _ _ _, Apart.nil _, Apart.nil _, Apart.nil _, Apart.nil _, Apart.nil _, Apart.nil _⟩
theorem Reg4.swap12 (h : Reg4 W0 w a la b lb c lc d ld) : Reg4 W0 w b lb a la c lc d ld := ⟨h.bel, h.ob, h.oa, h.oc, h.od, h.ab.symm, h.bc, h.bd, h.ac, h.ad, h.cd⟩
theorem Reg4.swap13 (h : Reg4 W0 w a la b lb c lc d ld) : Reg4 W0 w c lc b lb a la d ld := ⟨h.bel, h.oc, h.ob, h.oa, h.od, h.bc.symm, h.ac.symm, h.cd, h.ab.symm, h.bd, h.ad⟩
theorem Reg4.swap14 (h : Reg4 W0 w a la b lb c lc d ld) : Reg4 W0 w d ld b lb c lc a la := ⟨h.bel, h.od, h.ob, h.oc, h.oa, h.bd.symm, h.cd.symm, h.ad.symm, h.bc, h.ab.symm, h.ac.symm⟩
theorem Reg4.upd {a' : Value} {la' : List Int} (h : Reg4 W0 w a la b lb c lc d ld) (ho : OwnInts w' W0.heap.size a' la') (hg : w.grownBy w' a.ownBlock) (hn : a'.ownBlock = a.ownBlock ∨ ∀ q, a'.ownBlock = some q → w.heap.size ≤ q) : Reg4 W0 w' a' la' b lb c lc d ld := by
  have key : ∀ (u : Value) (lu : List Int), OwnInts w W0.heap.size u lu → Apart a u → OwnInts w' W0.heap.size u lu ∧ Apart a' u := fun u lu hu hau => by
    constructor
    · refine World.ownsRow.kept hu hg ?_
      by_cases e : u.ownBlock = none
      · exact .inl e
      · right
        intro e2
        obtain ⟨g, hg⟩ := Option.ne_none_iff_exists'.1 e
        exact hau g (by rw [← e2]; exact hg) hg
    · intro g h1 h2
      rcases hn with hn | hn
      · exact hau g (by rw [← hn]; exact h1) h2
      · have := hn g h1
        have := (World.ownsRow.lt hu g h2).2
        omega
  obtain ⟨o2, p2⟩ := key b lb h.ob h.ab
  obtain ⟨o3, p3⟩ := key c lc h.oc h.ac
  obtain ⟨o4, p4⟩ := key d ld h.od h.ad
  exact ⟨h.bel.grown hg h.bel.size (fun k hk => (World.ownsRow.lt h.oa k hk).1), ho, o2, o3, o4, p2, p3, p4, h.bc, h.bd, h.cd⟩
theorem Reg4.lit (h : Reg4 W0 w a la b lb c lc d ld) (y : Int) (n : Nat) (hn : w.heap.size = n) : Reg4 W0 (w.alloc (.cells #[.int .i64 y] 3)) (.slice (some ⟨n, 0, none⟩) 1 1) [y] b lb c lc d ld := by
  subst hn
  have ho : OwnInts (w.alloc (.cells #[.int .i64 y] 3)) W0.heap.size (.slice (some ⟨w.heap.size, 0, none⟩) 1 1) [y] := World.ownsRow_lit w #[.int .i64 y] 1 h.bel.size (by unfold maxLen; omega) rfl
  have hg : w.grownBy (w.alloc (.cells #[.int .i64 y] 3)) a.ownBlock := ⟨rfl, rfl, rfl, by simp, fun k hk _ => Below.heap_alloc w _ k hk⟩
  exact h.upd ho hg (.inr fun q hq => by
    have : w.heap.size = q := by simpa [Value.ownBlock] using hq
    omega)
theorem Reg4.drew (h : Reg4 W0 w a la b lb c lc d ld) : Reg4 W0 w.drew a la b lb c lc d ld := ⟨h.bel.drew, h.oa.drew, h.ob.drew, h.oc.drew, h.od.drew, h.ab, h.ac, h.ad, h.bc, h.bd, h.cd⟩
theorem Reg4.old {v : Value} {l : List Int} (h : Reg4 W0 w a la b lb c lc d ld) (hv : IntsAt W0 v l) : IntsAt w v l := hv.below h.bel
theorem Reg4.app (h : Reg4 W0 w a la b lb c lc d ld) (ty : TypeId) (xv : Value) (l2 : List Int) (hx : IntsAt w xv l2) (hnil : NilOk xv) (hlen : la.length + l2.length ≤ 1000) :
    ∃ a' w', (Builtin.append_ #[22, 22] ty #[a, xv]).run Try.prog w = .ok a' w' ∧ Reg4 W0 w' a' (la ++ l2) b lb c lc d ld := by
  obtain ⟨a', w', h1, h2, h3, h4⟩ := run_append_ints w W0.heap.size ty a xv la l2 h.oa hx hnil hlen h.bel.size
  exact ⟨a', w', h1, h.upd h2 h3 h4⟩
theorem Reg4.nilB (h : Reg4 W0 w a la b lb c lc d ld) : NilOk b := fun n m e => by
  rcases h.ob.2 with ⟨e2, _⟩ | ⟨g, cap, cur, e2, _⟩
  · rw [e2] at e; cases e; rfl
  · rw [e2] at e; cases e
theorem Reg4.nilA (h : Reg4 W0 w a la b lb c lc d ld) : NilOk a := h.swap12.nilB
end

/-- append, as a step of a list of operations -/
theorem wl_app {ops : Array Oper} {rest : List Oper} {o : Oper} {a : Act} {w : World} {Q : Exit → Act → World → Prop} {vs vx : Value} (hgd : o.guard = none) (s x : Operand)
    (ho : o.op = .call { callee := .builtin .append, args := #[s, x], argTypes := #[22, 22] }) (hs : a.eval s = vs) (hx : a.eval x = vx) {C : Value → World → Prop}
    (hr : ∃ v' w', (Builtin.append_ #[22, 22] o.type #[vs, vx]).run Try.prog w = .ok v' w' ∧ C v' w') (k : ∀ v' w', C v' w' → wpList Try.prog ops Q rest (a.put o.dst v') w') : wpList Try.prog ops Q (o :: rest) a w := by
  obtain ⟨v', w', h1, h2⟩ := hr
  exact Lib.wpList_append_run w hgd s x _ _ ho vs vx hs hx v' w' h1 (k v' w' h2)
/-- append, as a step of a region that draws -/
theorem ws_app {ops : Array Oper} {o : Oper} {a : Act} {w : World} {K : Act → World → Prop} {Q : Exit → Act → World → Prop} {E : Prop} {vs vx : Value} (hg : o.guard = none) (s x : Operand)
    (ho : o.op = .call { callee := .builtin .append, args := #[s, x], argTypes := #[22, 22] }) (hs : a.eval s = vs) (hx : a.eval x = vx) {C : Value → World → Prop}
    (hr : ∃ v' w', (Builtin.append_ #[22, 22] o.type #[vs, vx]).run Try.prog w = .ok v' w' ∧ C v' w') (k : ∀ v' w', C v' w' → K (a.put o.dst v') w') :
    if Region.wanted o (yielded ops a.tmps) = true then Oper.wp Try.prog o a w K Q else E := by
  have hw : Region.wanted o (yielded ops a.tmps) = true := by simp [Region.wanted, hg]
  rw [if_pos hw]
  obtain ⟨v', w', h1, h2⟩ := hr
  unfold Oper.wp execOp
  simp only [ho, resolve, invoke, builtin, Sem.run_bind, Sem.run_pure, Result.andThen_ok, List.map_toArray, List.map_cons, List.map_nil, hs, hx, h1]
  exact k v' w' h2
end Go.Proofs.Ytpbahffkhpfakaa


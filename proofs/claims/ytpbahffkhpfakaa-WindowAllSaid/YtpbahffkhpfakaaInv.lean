import Derived.Test.YtpbahffkhpfakaaProg
import Derived.WalkKit
import Derived.Below
import Derived.Lib.Hide
import Derived.Deep.RegionHeld3
import Derived.Deep.CutRange
namespace Go.Proofs.Ytpbahffkhpfakaa
open Go.RowKit
set_option linter.unusedSimpArgs false
set_option linter.unusedVariables false

/-! ## A region that draws its order: what every operation keeps -/

/-- a frame with some slots written over -/
def fr (a0 : Act) : List Nat → (Nat → Value) → Act
  | [], _ => a0
  | d :: ds, f => (fr a0 ds f).put (some d) (f d)

theorem act_ext {a b : Act} (h1 : a.tmps.size = b.tmps.size) (h2 : ∀ k, a.tmps.getD k undef = b.tmps.getD k undef) (h3 : a.defers = b.defers) : a = b := by
  obtain ⟨s, d⟩ := a
  obtain ⟨t, e⟩ := b
  simp only at h1 h2 h3
  subst h3
  congr 1
  apply Array.ext h1
  intro i hi hj
  have := h2 i
  simpa [Array.getD, hi, hj] using this
theorem put_size (a : Act) (d : Option Nat) (v : Value) : (a.put d v).tmps.size = a.tmps.size := by
  cases d <;> simp [Act.put]
theorem put_defers (a : Act) (d : Option Nat) (v : Value) : (a.put d v).defers = a.defers := by
  cases d <;> simp [Act.put]
theorem put_getD (a : Act) (d k : Nat) (v : Value) (h : d < a.tmps.size) : (a.put (some d) v).tmps.getD k undef = if k = d then v else a.tmps.getD k undef := by
  simp only [Act.put]
  by_cases e : k = d
  · subst e
    simp [Array.getD, h]
  · rw [if_neg e]
    simp only [Array.getD, Array.size_setIfInBounds]
    by_cases hk : k < a.tmps.size
    · simp [hk, Array.getElem_setIfInBounds, Ne.symm e]
    · simp [hk]
theorem fr_size (a0 : Act) (ds : List Nat) (f : Nat → Value) : (fr a0 ds f).tmps.size = a0.tmps.size := by
  induction ds with
  | nil => rfl
  | cons d ds ih => rw [fr, put_size, ih]
theorem fr_defers (a0 : Act) (ds : List Nat) (f : Nat → Value) : (fr a0 ds f).defers = a0.defers := by
  induction ds with
  | nil => rfl
  | cons d ds ih => rw [fr, put_defers, ih]
theorem fr_getD (a0 : Act) (f : Nat → Value) (k : Nat) : ∀ (ds : List Nat), (∀ d ∈ ds, d < a0.tmps.size) → (fr a0 ds f).tmps.getD k undef = if k ∈ ds then f k else a0.tmps.getD k undef
  | [], _ => by simp [fr]
  | d :: ds, h => by
    have ih := fr_getD a0 f k ds (fun x hx => h x (List.mem_cons_of_mem _ hx))
    rw [fr, put_getD _ _ _ _ (by rw [fr_size]; exact h d (by simp)), ih]
    by_cases e : k = d
    · subst e; simp
    · simp [e]
theorem fr_put {a0 : Act} {ds : List Nat} {f : Nat → Value} {d : Nat} (v : Value) (hd : d ∈ ds) (hlt : ∀ d ∈ ds, d < a0.tmps.size) : (fr a0 ds f).put (some d) v = fr a0 ds (fun k => if k = d then v else f k) := by
  refine act_ext (by rw [put_size, fr_size, fr_size]) (fun k => ?_) (by rw [put_defers, fr_defers, fr_defers])
  rw [put_getD _ _ _ _ (by rw [fr_size]; exact hlt d hd), fr_getD _ _ _ _ hlt, fr_getD _ _ _ _ hlt]
  by_cases e : k = d
  · subst e; simp [hd]
  · simp [e]
theorem fr_init {a0 : Act} {ds : List Nat} (hlt : ∀ d ∈ ds, d < a0.tmps.size) : fr a0 ds (fun k => a0.tmps.getD k undef) = a0 := by
  refine act_ext (fr_size _ _ _) (fun k => ?_) (fr_defers _ _ _)
  rw [fr_getD _ _ _ _ hlt]
  by_cases e : k ∈ ds <;> simp [e]
theorem fr_in {a0 : Act} {ds : List Nat} {f : Nat → Value} {k : Nat} (hk : k ∈ ds) (hlt : ∀ d ∈ ds, d < a0.tmps.size) : (fr a0 ds f).eval (.tmp k) = f k := by
  show (fr a0 ds f).tmps.getD k undef = f k
  rw [fr_getD _ _ _ _ hlt, if_pos hk]
theorem fr_out {a0 : Act} {ds : List Nat} {f : Nat → Value} {k : Nat} (hk : k ∉ ds) (hlt : ∀ d ∈ ds, d < a0.tmps.size) : (fr a0 ds f).eval (.tmp k) = a0.eval (.tmp k) := by
  show (fr a0 ds f).tmps.getD k undef = a0.tmps.getD k undef
  rw [fr_getD _ _ _ _ hlt, if_neg hk]

theorem fr_at_in {a0 : Act} {ds : List Nat} {f : Nat → Value} {k : Nat} (hk : k ∈ ds) (hlt : ∀ d ∈ ds, d < a0.tmps.size) : ((fr a0 ds f).tmps[k]?).getD undef = f k := by
  rw [← Array.getD_eq_getD_getElem?]
  exact fr_in hk hlt
theorem fr_at_out {a0 : Act} {ds : List Nat} {f : Nat → Value} {k : Nat} (hk : k ∉ ds) (hlt : ∀ d ∈ ds, d < a0.tmps.size) : ((fr a0 ds f).tmps[k]?).getD undef = (a0.tmps[k]?).getD undef := by
  rw [← Array.getD_eq_getD_getElem?, ← Array.getD_eq_getD_getElem?]
  exact fr_out hk hlt

def upd (l : Nat → Bool) (i : Nat) : Nat → Bool := fun k => if k = i then true else l k

def updv (f : Nat → Value) (d : Option Nat) (v : Value) : Nat → Value := match d with | some d => fun k => if k = d then v else f k | none => f

def topoB (md : Region.Mode) (ops : Array Oper) : Bool := (List.range ops.size).all fun i => ((ops[i]?).map (·.after.all fun e => !Region.binds md e || decide (e.on < i))).getD false
theorem topo_spec {md : Region.Mode} {ops : Array Oper} (h : topoB md ops = true) {i : Nat} {o : Oper} (hi : ops[i]? = some o) : ∀ e ∈ o.after, Region.binds md e = true → e.on < i := by
  unfold topoB at h
  rw [List.all_eq_true] at h
  have hlt : i < ops.size := (Array.getElem?_eq_some_iff.1 hi).1
  have := h i (by simpa using hlt)
  rw [hi] at this
  simp only [Option.map_some, Option.getD_some, Array.all_eq_true'] at this
  intro e he hb
  have := this e he
  simpa [hb] using this

section
variable {P : Program} {ops : Array Oper} {Q : Exit → Act → World → Prop} {md : Region.Mode}

theorem wpAny_inv (J : (Nat → Bool) → Act → World → Prop) (htopo : topoB md ops = true)
    (hstep : ∀ i o, ops[i]? = some o → ∀ l a w, J l a w → l i = false → (∀ e ∈ o.after, Region.binds md e = true → l e.on = true) → wpOp P ops Q i (fun a' w' => J (upd l i) a' w') a w)
    (hdone : ∀ l a w, J l a w → (∀ i, i < ops.size → l i = true) → Q .normal a w) :
    ∀ (fuel : Nat) (L : Array Bool) (l : Nat → Bool) (s : List Nat) (a : Act) (w : World), L.size = ops.size → (∀ i, i < ops.size → L[i]? = some (l i)) → s.length ≤ fuel → (∀ i, i < ops.size → l i = false → i ∈ s) → J l a w → wpAny P md ops Q fuel L a w := by
  have hready : ∀ (L : Array Bool) (l : Nat → Bool), L.size = ops.size → (∀ i, i < ops.size → L[i]? = some (l i)) → ∀ i o, ops[i]? = some o → (i ∈ Region.ready md ops L ↔ l i = false ∧ ∀ e ∈ o.after, Region.binds md e = true → (L.getD e.on false) = true) := by
    intro L l hs hL i o hi
    have hlt : i < ops.size := (Array.getElem?_eq_some_iff.1 hi).1
    have h1 : L.getD i true = l i := by
      have := hL i hlt
      simp [Array.getD_eq_getD_getElem?, this]
    unfold Region.ready
    rw [List.mem_filter]
    simp only [List.mem_range, hlt, true_and, h1, hi, Option.map_some, Option.getD_some, Bool.and_eq_true, Bool.not_eq_true', Array.all_eq_true']
    constructor
    · rintro ⟨a, b⟩
      exact ⟨a, fun e he hb => by have := b e he; simpa [hb] using this⟩
    · rintro ⟨a, b⟩
      refine ⟨a, fun e he => ?_⟩
      cases hb : Region.binds md e with
      | false => simp
      | true => simpa using b e he hb
  intro fuel
  induction fuel with
  | zero =>
    intro L l s a w hs hL hlen hm hJ
    have hs0 : s = [] := List.eq_nil_of_length_eq_zero (by omega)
    have hall : ∀ i, i < ops.size → l i = true := fun i hi => by
      cases hl : l i with
      | true => rfl
      | false => have := hm i hi hl; rw [hs0] at this; simp at this
    refine ⟨?_, hdone l a w hJ hall⟩
    rw [List.eq_nil_iff_forall_not_mem]
    intro i hi
    have hlt : i < ops.size := by
      unfold Region.ready at hi
      rw [List.mem_filter] at hi
      simpa using hi.1
    have := ((hready L l hs hL i ops[i] (Array.getElem?_eq_getElem hlt)).1 hi).1
    rw [hall i hlt] at this
    cases this
  | succ fuel ih =>
    intro L l s a w hs hL hlen hm hJ
    refine ⟨fun hr => hdone l a w hJ ?_, fun i hi => ?_⟩
    · intro i
      induction i using Nat.strongRecOn with
      | ind i ihi =>
        intro hlt
        cases hl : l i with
        | true => rfl
        | false =>
          have hi := Array.getElem?_eq_getElem hlt
          have hmem := (hready L l hs hL i _ hi).2 ⟨hl, fun e he hb => by
            have h1 := topo_spec htopo hi e he hb
            have h2 := ihi e.on h1 (by omega)
            have h3 := hL e.on (by omega)
            simp [Array.getD_eq_getD_getElem?, h3, h2]⟩
          rw [hr] at hmem
          simp at hmem
    · have hlt : i < ops.size := by
        unfold Region.ready at hi
        rw [List.mem_filter] at hi
        simpa using hi.1
      have hi' := Array.getElem?_eq_getElem hlt
      obtain ⟨h1, h2⟩ := (hready L l hs hL i _ hi').1 hi
      refine wpOp_mono (fun a' w' hJ' => ?_) (hstep i _ hi' l a w hJ h1 fun e he hb => ?_)
      · refine ih _ (upd l i) (s.erase i) a' w' (by simpa using hs) (fun j hj => ?_) ?_ (fun j hj hl => ?_) hJ'
        · by_cases e : j = i
          · subst e
            simp [upd, hs, hj]
          · rw [Array.getElem?_setIfInBounds_ne (Ne.symm e), hL j hj]
            simp [upd, e]
        · have := List.length_erase_of_mem (hm i hlt h1)
          omega
        · by_cases e : j = i
          · subst e; simp [upd] at hl
          · exact (List.mem_erase_of_ne e).2 (hm j hj (by simpa [upd, e] using hl))
      · have h3 := h2 e he hb
        have h4 := topo_spec htopo hi' e he hb
        have h5 := hL e.on (by omega)
        simpa [Array.getD_eq_getD_getElem?, h5] using h3

def dstB (ops : Array Oper) (ds : List Nat) : Bool :=
  ((List.range ops.size).all fun i => match (ops[i]?).bind (·.dst) with | some d => ds.contains d && ((List.range ops.size).all fun j => decide (i = j) || !((ops[j]?).bind (·.dst) == some d)) | none => true)
theorem dst_in {ds : List Nat} (h : dstB ops ds = true) {i d : Nat} {o : Oper} (hi : ops[i]? = some o) (hd : o.dst = some d) : d ∈ ds := by
  unfold dstB at h
  rw [List.all_eq_true] at h
  have hlt : i < ops.size := (Array.getElem?_eq_some_iff.1 hi).1
  have := h i (by simpa using hlt)
  rw [hi] at this
  simp only [Option.bind_some, hd, Bool.and_eq_true] at this
  simpa using this.1
theorem dst_inj {ds : List Nat} (h : dstB ops ds = true) {i j d : Nat} {o p : Oper} (hi : ops[i]? = some o) (hd : o.dst = some d) (hj : ops[j]? = some p) (hp : p.dst = some d) : i = j := by
  unfold dstB at h
  rw [List.all_eq_true] at h
  have hlt : i < ops.size := (Array.getElem?_eq_some_iff.1 hi).1
  have hlt2 : j < ops.size := (Array.getElem?_eq_some_iff.1 hj).1
  have := h i (by simpa using hlt)
  rw [hi] at this
  simp only [Option.bind_some, hd, Bool.and_eq_true, List.all_eq_true] at this
  have := this.2 j (by simpa using hlt2)
  rw [hj] at this
  simp only [Option.bind_some, hp] at this
  simpa using this

/-- A REGION THAT DRAWS ITS ORDER, OPERATION BY OPERATION: E: what may happen to the world at any time; F: what the value in a slot says, in this world and in each later one; T: what holds between the operations, by what has come up. -/
theorem region_rel {id : Nat} {a0 : Act} {w0 : World} (ds : List Nat) (E : World → World → Prop) (F : Nat → Value → World → Prop) (T : (Nat → Bool) → (Nat → Value) → World → Prop)
    (hm : P.follows .mixedOrders = true) (htopo : topoB .any ops = true) (hdst : dstB ops ds = true) (hlt : ∀ d ∈ ds, d < a0.tmps.size)
    (hE : ∀ a b c, E a b → E b c → E a c) (hF : ∀ d v w w', F d v w → E w w' → F d v w')
    (h0 : E w0.drew w0.drew) (h1 : T (fun _ => false) (fun k => a0.tmps.getD k undef) w0.drew)
    (hstep : ∀ i o, ops[i]? = some o → ∀ l f w, E w0.drew w → T l f w → l i = false → (∀ e ∈ o.after, Region.binds .any e = true → l e.on = true) → (∀ (j : Nat) (p : Oper) (d : Nat), ops[j]? = some p → p.dst = some d → l j = true → F d (f d) w) →
      wpOp P ops Q i (fun a' w' => ∃ v, a' = (fr a0 ds f).put o.dst v ∧ E w w' ∧ T (upd l i) (updv f o.dst v) w' ∧ ∀ d, o.dst = some d → F d v w') (fr a0 ds f) w)
    (hdone : ∀ l f w, (∀ i, i < ops.size → l i = true) → E w0.drew w → T l f w → (∀ (j : Nat) (p : Oper) (d : Nat), ops[j]? = some p → p.dst = some d → F d (f d) w) → Q .normal (fr a0 ds f) w) :
    (Code.region id ops true).wp P Q a0 w0 := by
  refine wp_region_any hm ?_
  refine wpAny_inv (fun l a w => ∃ f, a = fr a0 ds f ∧ E w0.drew w ∧ T l f w ∧ ∀ (j : Nat) (p : Oper) (d : Nat), ops[j]? = some p → p.dst = some d → l j = true → F d (f d) w) htopo ?_ ?_ _ _ (fun _ => false) (List.range ops.size) _ _ (by simp) (fun i hi => by simp [hi]) (by simp) (fun i hi _ => by simpa using hi) ⟨_, (fr_init hlt).symm, h0, h1, fun j p d _ _ h => by cases h⟩
  · rintro i o hi l a w ⟨f, rfl, hEw, hT, hf⟩ hl hdeps
    refine wpOp_mono ?_ (hstep i o hi l f w hEw hT hl hdeps hf)
    rintro a' w' ⟨v, rfl, e1, e2, e3⟩
    cases hd : o.dst with
    | none =>
      rw [hd] at e2
      refine ⟨f, rfl, hE _ _ _ hEw e1, e2, fun j p d hj hp hlj => ?_⟩
      by_cases e : j = i
      · subst e
        rw [hi] at hj
        cases hj
        rw [hd] at hp
        cases hp
      · exact hF _ _ _ _ (hf j p d hj hp (by simpa [upd, e] using hlj)) e1
    | some d0 =>
      rw [hd] at e2
      refine ⟨_, fr_put v (dst_in hdst hi hd) hlt, hE _ _ _ hEw e1, e2, fun j p d hj hp hlj => ?_⟩
      by_cases e : j = i
      · subst e
        rw [hi] at hj
        cases hj
        rw [hd] at hp
        cases hp
        simpa using e3 d0 hd
      · have hne : d ≠ d0 := fun e2 => e (dst_inj hdst hj hp hi (by rw [e2]; exact hd))
        simp only [if_neg hne]
        exact hF _ _ _ _ (hf j p d hj hp (by simpa [upd, e] using hlj)) e1
  · rintro l a w ⟨f, rfl, hEw, hT, hf⟩ hall
    exact hdone l f w hall hEw hT fun j p d hj hp => hf j p d hj hp (hall j (Array.getElem?_eq_some_iff.1 hj).1)

def dstAt (ops : Array Oper) (j : Nat) : Option Nat := (ops[j]?).bind (·.dst)
def bareB (ops : List Oper) : Bool := ops.all fun o => o.guard.isNone

/-- what is asked of one operation -/
structure StepOk (P : Program) (ops : Array Oper) (Q : Exit → Act → World → Prop) (a0 : Act) (w0 : World) (ds : List Nat) (E : World → World → Prop) (F : Nat → Value → World → Prop) (T : (Nat → Bool) → (Nat → Value) → World → Prop) (i : Nat) (o : Oper) : Prop where
  step : ∀ l f w, E w0.drew w → T l f w → l i = false → (∀ e ∈ o.after, Region.binds .any e = true → l e.on = true) → (∀ j d, dstAt ops j = some d → l j = true → F d (f d) w) →
    o.wp P (fr a0 ds f) w (fun a' w' => ∃ v, a' = (fr a0 ds f).put o.dst v ∧ E w w' ∧ T (upd l i) (updv f o.dst v) w' ∧ ∀ d, o.dst = some d → F d v w') Q
def Steps (S : Nat → Oper → Prop) : List Oper → Nat → Prop
  | [], _ => True
  | o :: os, i => S i o ∧ Steps S os (i + 1)
theorem steps_at {S : Nat → Oper → Prop} : ∀ (l : List Oper) (n i : Nat) (o : Oper), Steps S l n → l[i]? = some o → S (n + i) o
  | [], _, _, _, _, h => by simp at h
  | x :: l, n, 0, o, hs, h => by
    simp at h
    subst h
    exact hs.1
  | x :: l, n, i + 1, o, hs, h => by
    have := steps_at l (n + 1) i o hs.2 (by simpa using h)
    rwa [show n + 1 + i = n + (i + 1) from by omega] at this

theorem region_list {id : Nat} {l : List Oper} {a0 : Act} {w0 : World} (ds : List Nat) (E : World → World → Prop) (F : Nat → Value → World → Prop) (T : (Nat → Bool) → (Nat → Value) → World → Prop)
    (hm : P.follows .mixedOrders = true) (htopo : topoB .any l.toArray = true) (hdst : dstB l.toArray ds = true) (hbare : bareB l = true) (hlt : ∀ d ∈ ds, d < a0.tmps.size)
    (hE : ∀ a b c, E a b → E b c → E a c) (hF : ∀ d v w w', F d v w → E w w' → F d v w')
    (h0 : E w0.drew w0.drew) (h1 : T (fun _ => false) (fun k => a0.tmps.getD k undef) w0.drew)
    (hdone : ∀ k f w, (∀ i, i < l.length → k i = true) → E w0.drew w → T k f w → (∀ j d, dstAt l.toArray j = some d → F d (f d) w) → Q .normal (fr a0 ds f) w)
    (hsteps : Steps (StepOk P l.toArray Q a0 w0 ds E F T) l 0) :
    (Code.region id l.toArray true).wp P Q a0 w0 := by
  refine region_rel ds E F T hm htopo hdst hlt hE hF h0 h1 ?_ ?_
  · intro i o hi k f w he hT hk hdeps hf
    have hi' : l[i]? = some o := by simpa using hi
    have hs := steps_at l 0 i o hsteps hi'
    rw [Nat.zero_add] at hs
    unfold wpOp
    simp only [hi]
    have hg : o.guard = none := by
      unfold bareB at hbare
      rw [List.all_eq_true] at hbare
      simpa using hbare o (List.mem_of_getElem? hi')
    rw [if_pos (by simp [Region.wanted, hg])]
    refine .inl (hs.step k f w he hT hk hdeps fun j d hj hl => ?_)
    unfold dstAt at hj
    cases hq : l.toArray[j]? with
    | none => rw [hq] at hj; simp at hj
    | some p => rw [hq] at hj; exact hf j p d hq hj hl
  · intro k f w hk he hT hf
    refine hdone k f w (fun i hi => hk i (by simpa using hi)) he hT fun j d hj => ?_
    unfold dstAt at hj
    cases hq : l.toArray[j]? with
    | none => rw [hq] at hj; simp at hj
    | some p => rw [hq] at hj; exact hf j p d hq hj

/-- an operation that yields a value -/
theorem step_val {ops : Array Oper} {a0 : Act} {w0 : World} {ds : List Nat} {E : World → World → Prop} {F : Nat → Value → World → Prop} {T : (Nat → Bool) → (Nat → Value) → World → Prop} {i : Nat} {o : Oper} (d : Nat) (hd : o.dst = some d)
    (h : ∀ l f w, E w0.drew w → T l f w → l i = false → (∀ e ∈ o.after, Region.binds .any e = true → l e.on = true) → (∀ j d, dstAt ops j = some d → l j = true → F d (f d) w) →
      ∃ v w', (execOp (fr a0 ds f).eval o).run P w = .ok (.value v) w' ∧ E w w' ∧ T (upd l i) (updv f (some d) v) w' ∧ F d v w') : StepOk P ops Q a0 w0 ds E F T i o := by
  constructor
  intro l f w h1 h2 h3 h4 h5
  obtain ⟨v, w', k1, k2, k3, k4⟩ := h l f w h1 h2 h3 h4 h5
  unfold Oper.wp
  rw [k1]
  exact ⟨v, rfl, k2, by rw [hd]; exact k3, fun d' hd' => by rw [hd] at hd'; cases hd'; exact k4⟩
/-- a store -/
theorem step_skip {ops : Array Oper} {a0 : Act} {w0 : World} {ds : List Nat} {E : World → World → Prop} {F : Nat → Value → World → Prop} {T : (Nat → Bool) → (Nat → Value) → World → Prop} {i : Nat} {o : Oper} (hd : o.dst = none)
    (h : ∀ l f w, E w0.drew w → T l f w → l i = false → (∀ e ∈ o.after, Region.binds .any e = true → l e.on = true) → (∀ j d, dstAt ops j = some d → l j = true → F d (f d) w) →
      ∃ w', (execOp (fr a0 ds f).eval o).run P w = .ok .skip w' ∧ E w w' ∧ T (upd l i) f w') : StepOk P ops Q a0 w0 ds E F T i o := by
  constructor
  intro l f w h1 h2 h3 h4 h5
  obtain ⟨w', k1, k2, k3⟩ := h l f w h1 h2 h3 h4 h5
  unfold Oper.wp
  rw [k1]
  exact ⟨undef, rfl, k2, by rw [hd]; exact k3, fun d' hd' => by rw [hd] at hd'; cases hd'⟩
/-- a call -/
theorem step_call {ops : Array Oper} {a0 : Act} {w0 : World} {ds : List Nat} {E : World → World → Prop} {F : Nat → Value → World → Prop} {T : (Nat → Bool) → (Nat → Value) → World → Prop} {i : Nat} {o : Oper} (d : Nat) (hd : o.dst = some d) {g : Nat}
    (h : ∀ l f w, E w0.drew w → T l f w → l i = false → (∀ e ∈ o.after, Region.binds .any e = true → l e.on = true) → (∀ j d, dstAt ops j = some d → l j = true → F d (f d) w) →
      ∃ args, (execOp (fr a0 ds f).eval o).run P w = .ok (.enter g args) w ∧ Calls P g args w fun e w' => ∃ v, e = .returned v ∧ E w w' ∧ T (upd l i) (updv f (some d) v) w' ∧ F d v w') : StepOk P ops Q a0 w0 ds E F T i o := by
  constructor
  intro l f w h1 h2 h3 h4 h5
  obtain ⟨args, k1, k2⟩ := h l f w h1 h2 h3 h4 h5
  unfold Oper.wp
  rw [k1]
  refine Calls.mono k2 ?_
  rintro e w' ⟨v, rfl, m1, m2, m3⟩
  exact ⟨v, rfl, m1, by rw [hd]; exact m2, fun d' hd' => by rw [hd] at hd'; cases hd'; exact m3⟩

theorem run_app {P : Program} {ρ : Operand → Value} {o : Oper} {w w' : World} {s x : Operand} {t : TypeId} {vs vx v' : Value} (ho : o.op = .call { callee := .builtin .append, args := #[s, x], argTypes := #[t, t] }) (hs : ρ s = vs) (hx : ρ x = vx) (h : (Builtin.append_ #[t, t] o.type #[vs, vx]).run P w = .ok v' w') : (execOp ρ o).run P w = .ok (.value v') w' := by
  unfold execOp
  simp only [ho, resolve, invoke, builtin, Sem.run_bind, Sem.run_pure, Result.andThen_ok, List.map_toArray, List.map_cons, List.map_nil, hs, hx, h]
theorem dep {o : Oper} {l : Nat → Bool} (h : ∀ e ∈ o.after, Region.binds .any e = true → l e.on = true) (k : Nat) (e : Edge) (he : o.after[k]? = some e) (hb : Region.binds .any e = true) : l e.on = true := h e (Array.mem_of_getElem? he) hb
theorem wp_named {C : Code} {a : Act} {w : World} (h : ∀ a0, a0 = a → C.wp P Q a0 w) : C.wp P Q a w := h a rfl
theorem lt_of_all {ds : List Nat} {n : Nat} (h : (ds.all fun d => decide (d < n)) = true) : ∀ d ∈ ds, d < n := fun d hd => by
  rw [List.all_eq_true] at h
  simpa using h d hd
end
end Go.Proofs.Ytpbahffkhpfakaa

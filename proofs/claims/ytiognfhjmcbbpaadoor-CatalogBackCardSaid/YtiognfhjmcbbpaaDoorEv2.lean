import Derived.Test.YtiognfhjmcbbpaaDoorEv1
import Derived.Great.BuildSlice
import Derived.Laws.StructEq
namespace Go.Proofs.YtiognfhjmcbbpaaDoor.Ev
open Go.RowKit
set_option linter.unusedSimpArgs false
set_option linter.unusedVariables false

section
variable {P : Program} {M : Mem} {a : Act} {o : Oper}

theorem does_val {u : Value} {c : C} (hr : (execOp a.eval o).run P M.w = .ok (.value u) M.w) (hv : Rv M u c) : Does P M a o c :=
  .inl ⟨u, M.w, hr, Below.refl _ _, hv⟩

theorem does_move {x : Operand} {c : C} (ho : o.op = .move x ∨ o.op = .assign x) (hx : Rv M (a.eval x) c) : Does P M a o c := by
  refine does_val (u := a.eval x) ?_ hx
  rcases ho with ho | ho <;> simp [execOp, ho]
theorem does_pick {c x y : Operand} {t : Bool} {cx cy : C} (ho : o.op = .pick c x y) (hc : Rv M (a.eval c) (.v (.bool t))) (hx : Rv M (a.eval x) cx) (hy : Rv M (a.eval y) cy) : Does P M a o (if t = true then cx else cy) := by
  have hc' : a.eval c = .bool t := hc.1
  refine does_val (u := if t = true then a.eval x else a.eval y) ?_ (by cases t <;> simpa)
  simp [execOp, ho, hc', asBool]

def nilC (H : List Blk) : C → Option C
  | .ip cs => some (.ip cs)
  | .ptr n g i off => if liveB H (.ptr n g i off) = true then some (.ptr n g i off) else none
  | .fn f caps => some (.fn f caps)
  | .v (.func (.func f) x y) => some (.v (.func (.func f) x y))
  | _ => none
theorem does_nil {x : Operand} {cx c : C} (ho : o.op = .nilCheck x) (hx : Rv M (a.eval x) cx) (hc : nilC M.H cx = some c) : Does P M a o c := by
  have key : ∀ v, a.eval x = v → ((∃ p, v = .pointer (some p)) ∨ ∃ f y z, v = .func (.func f) y z) → (execOp a.eval o).run P M.w = .ok (.value v) M.w := by
    rintro v hv (⟨p, rfl⟩ | ⟨f, y, z, rfl⟩) <;> simp [execOp, ho, hv]
  cases cx with
  | ip cs =>
    simp [nilC] at hc; subst hc
    obtain ⟨b, off, hv, _⟩ := id hx
    exact does_val (key _ rfl (.inl ⟨_, hv⟩)) hx
  | ptr n g i off =>
    simp only [nilC] at hc
    split at hc
    · rename_i hl
      simp at hc; subst hc
      obtain ⟨bl, hb, _, hg⟩ := id hx
      simp only [liveB, hb] at hl
      exact does_val (key _ rfl (.inl ⟨_, (hg (by simpa using hl)).2⟩)) hx
    · cases hc
  | fn f caps =>
    simp [nilC] at hc; subst hc
    obtain ⟨vs, hv, _⟩ := id hx
    exact does_val (key _ rfl (.inr ⟨_, _, _, hv⟩)) hx
  | v w =>
    simp only [nilC] at hc
    split at hc <;> first | cases hc | skip
    · rename_i h1; cases h1
    · rename_i h1; cases h1
    · rename_i h1; cases h1
    · rename_i f y z h1
      cases h1
      exact does_val (key _ rfl (.inr ⟨_, _, _, hx.1⟩)) hx
  | _ => simp [nilC] at hc

theorem does_load (hM : Rep M) {t : TypeId} {x : Operand} {cx : C} {cs : List C} {c : C} (ho : o.op = .load t x) (hx : Rv M (a.eval x) cx)
    (hcs : cx = .ip cs ∨ ∃ n g i off, cx = .ptr n g i off ∧ ptrCells M.H n g i off = some cs) (hc : evLoad P t cs = some c) : Does P M a o c := by
  have key : ∀ b off, a.eval x = .pointer (some ⟨b, off, none⟩) → (∀ i c, cs[i]? = some c → ∃ u, M.w.cell? ⟨b, off + i, none⟩ = some u ∧ Rc M u c) → Does P M a o c := by
    intro b off hv hcc
    obtain ⟨u, hr, hu⟩ := load_cells (P := P) hcc hc
    exact does_val (by simp [execOp, ho, hv, Instr.loadAt, Instr.sureAddr, hr]) hu
  rcases hcs with rfl | ⟨n, g, i, off, rfl, hp⟩
  · obtain ⟨b, off, hv, hcc⟩ := ip_cells hx
    exact key b off hv hcc
  · obtain ⟨b, o', hv, hcc⟩ := ptr_cells hM hx hp
    exact key b o' hv hcc

theorem run_sizeOf_of {t : TypeId} {n : Nat} (h : tsize P t = some n) (w : World) : (sizeOf t).run P w = .ok n w := by
  unfold tsize at h
  cases hi : P.info? t with
  | none => rw [hi] at h; simp at h
  | some i => rw [hi] at h; simp at h; simp [sizeOf, typeInfo, hi, h]

def fieldC (H : List Blk) (off : Nat) : C → Option C
  | .ip cs => some (.ip (cs.drop off))
  | .ptr n g i off0 => if liveB H (.ptr n g i off0) = true then some (.ptr n g i (off0 + off)) else none
  | _ => none
theorem does_fieldAddr {s : TypeId} {x : Operand} {f : Nat} {cx c : C} {off sz : Nat} {ft : TypeId} (ho : o.op = .fieldAddr s x f) (hx : Rv M (a.eval x) cx) (hf : tfield P s f = some (off, ft, sz)) (hsz : sz ≠ 0)
    (hc : fieldC M.H off cx = some c) : Does P M a o c := by
  unfold tfield at hf
  split at hf
  · rename_i fs hfs
    cases hff : fs[f]? with
    | none => rw [hff] at hf; simp at hf
    | some fd =>
      rw [hff] at hf
      simp only [Option.bind_some] at hf
      cases hts : tsize P fd.type with
      | none => rw [hts] at hf; simp at hf
      | some n =>
        rw [hts] at hf
        simp at hf
        obtain ⟨rfl, rfl, rfl⟩ := hf
        have key : ∀ b o', a.eval x = .pointer (some ⟨b, o', none⟩) → (execOp a.eval o).run P M.w = .ok (.value (.pointer (some ⟨b, o' + fd.offset, none⟩))) M.w := by
          intro b o' hv
          simp [execOp, ho, hv, Instr.fieldAt, Instr.sureAddr, run_underlying hfs, hff, fieldPlace, run_sizeOf_of hts, hsz, add_lit]
        cases cx with
        | ip cs =>
          simp [fieldC] at hc; subst hc
          obtain ⟨b, o', hv, hcc⟩ := id hx
          refine does_val (key b o' hv) ⟨b, o' + fd.offset, rfl, fun i c hi => ?_⟩
          rw [List.getElem?_drop] at hi
          have := hcc _ c hi
          rwa [← Nat.add_assoc] at this
        | ptr n g i off0 =>
          simp only [fieldC] at hc
          split at hc
          · rename_i hl
            simp at hc; subst hc
            obtain ⟨bl, hb, hle, hg⟩ := id hx
            simp only [liveB, hb] at hl
            obtain ⟨hnl, hv⟩ := hg (by simpa using hl)
            exact does_val (key _ _ hv) ⟨bl, hb, hle, fun _ => ⟨hnl, by rw [Nat.add_assoc]⟩⟩
          · cases hc
        | _ => simp [fieldC] at hc
  · cases hf

/-- A part of a value. -/
def partAtC (P : Program) (t : TypeId) (cs : List C) (off : Nat) : Option C :=
  match tagg P t with
  | some true => (tsize P t).map fun n => .agg ((cs.drop off).take n)
  | some false => cs[off]?
  | none => none
theorem part_read {vs : Array Value} {cs : List C} (h : RL M vs cs) {t : TypeId} {off : Nat} {c : C} (hc : partAtC P t cs off = some c) : ∃ u, (part t vs off).run P M.w = .ok u M.w ∧ Rv M u c := by
  unfold partAtC at hc
  split at hc
  · rename_i ha
    cases hs : tsize P t with
    | none => rw [hs] at hc; simp at hc
    | some n =>
      rw [hs] at hc
      simp at hc; subst hc
      refine ⟨.agg (vs.extract off (off + n)), by simp [part, run_isAgg_of ha, run_sizeOf_of hs], _, rfl, by simp [h.1]; omega, fun i c hi => ?_⟩
      rw [List.getElem?_take] at hi
      split at hi
      · rename_i hin
        rw [List.getElem?_drop] at hi
        have h1 := h.2 _ c hi
        have hl : off + i < vs.size := by have := (List.getElem?_eq_some_iff.1 hi).1; have := h.1; omega
        rw [Array.getD_eq_getD_getElem?] at h1 ⊢
        rw [Array.getElem?_extract]
        rw [if_pos (by omega)]
        exact h1
      · cases hi
  · rename_i ha
    have h1 := h.2 _ c hc
    have hl : off < vs.size := by have := (List.getElem?_eq_some_iff.1 hc).1; have := h.1; omega
    refine ⟨vs[off], by simp [part, run_isAgg_of ha, hl], ?_⟩
    rw [Array.getD_eq_getD_getElem?, Array.getElem?_eq_getElem hl] at h1
    exact Rc.rv (by simpa using h1)
  · cases hc
theorem does_field {t : TypeId} {x : Operand} {f : Nat} {cs : List C} {c : C} {off sz : Nat} {ft : TypeId} (ho : o.op = .field t x f) (hx : Rv M (a.eval x) (.agg cs)) (hf : tfield P t f = some (off, ft, sz))
    (hc : partAtC P ft cs off = some c) : Does P M a o c := by
  unfold tfield at hf
  split at hf
  · rename_i fs hfs
    cases hff : fs[f]? with
    | none => rw [hff] at hf; simp at hf
    | some fd =>
      rw [hff] at hf
      simp only [Option.bind_some] at hf
      cases hts : tsize P fd.type with
      | none => rw [hts] at hf; simp at hf
      | some n =>
        rw [hts] at hf
        simp at hf
        obtain ⟨rfl, rfl, rfl⟩ := hf
        obtain ⟨vs, hv, h1, h2⟩ := hx
        obtain ⟨u, hr, hu⟩ := part_read (P := P) ⟨h1, h2⟩ hc
        exact does_val (by simp [execOp, ho, hv, Instr.field, run_underlying hfs, hff, asAgg, hr]) hu
  · cases hf

/-! ### indices -/

def idxC (P : Program) (H : List Blk) (t : TypeId) (n : Int) : C → Option C
  | .sl _ rows => (telem P t).bind fun e => if 0 ≤ n ∧ n < rows.length then (rows[n.toNat]?).bind fun r => if r.length = e.2 then some (.ip r) else none else none
  | .own m g len => (telem P t).bind fun e => (H[m]?).bind fun bl => if bl.gen = g ∧ e.2 = bl.k ∧ bl.nl = false ∧ 0 ≤ n ∧ n < len then some (.ptr m g n.toNat 0) else none
  | .ip cs => (tarr P t).bind fun x => if 0 ≤ n ∧ n < x.1 then some (.ip (cs.drop (n.toNat * x.2.2))) else none
  | .ptr m g i off => (tarr P t).bind fun x => if liveB H (.ptr m g i off) = true ∧ 0 ≤ n ∧ n < x.1 then some (.ptr m g i (off + n.toNat * x.2.2)) else none
  | _ => none
theorem does_indexAddr {t : TypeId} {x y : Operand} {k : IntKind} {n : Int} {cx c : C} (ho : o.op = .indexAddr t x y) (hx : Rv M (a.eval x) cx) (hy : Rv M (a.eval y) (.v (.int k n))) (hc : idxC P M.H t n cx = some c) : Does P M a o c := by
  have hy' : a.eval y = .int k n := hy.1
  have slk : ∀ e sz, telem P t = some (e, sz) → ∀ b off len cap, a.eval x = .slice (some ⟨b, off, none⟩) len cap → 0 ≤ n → n < len →
      (execOp a.eval o).run P M.w = .ok (.value (.pointer (some ⟨b, off + n.toNat * sz, none⟩))) M.w := by
    intro e sz he b off len cap hv h0 h1
    unfold telem at he
    split at he
    · rename_i e0 hd
      cases hts : tsize P e0 with
      | none => rw [hts] at he; simp at he
      | some m =>
        rw [hts] at he
        simp at he
        obtain ⟨rfl, rfl⟩ := he
        simp [execOp, ho, hv, hy', Instr.indexAt, asIntOf, run_underlying hd, h0, h1, run_sizeOf_of hts, add_lit]
    · cases he
  have ark : ∀ len e sz, tarr P t = some (len, e, sz) → ∀ b off, a.eval x = .pointer (some ⟨b, off, none⟩) → 0 ≤ n → n < len →
      (execOp a.eval o).run P M.w = .ok (.value (.pointer (some ⟨b, off + n.toNat * sz, none⟩))) M.w := by
    intro len e sz he b off hv h0 h1
    unfold tarr at he
    split at he
    · rename_i l0 e0 hd
      cases hts : tsize P e0 with
      | none => rw [hts] at he; simp at he
      | some m =>
        rw [hts] at he
        simp at he
        obtain ⟨rfl, rfl, rfl⟩ := he
        simp [execOp, ho, hv, hy', Instr.indexAt, asIntOf, run_underlying hd, h0, h1, run_sizeOf_of hts, add_lit, Instr.sureAddr]
    · cases he
  cases cx with
  | sl nl rows =>
    simp only [idxC] at hc
    cases he : telem P t with
    | none => rw [he] at hc; simp at hc
    | some e =>
      rw [he] at hc
      simp only [Option.bind_some] at hc
      split at hc
      · rename_i hcond
        obtain ⟨h2, h3⟩ := hcond
        cases hr : rows[n.toNat]? with
        | none => rw [hr] at hc; simp at hc
        | some r =>
          rw [hr] at hc
          simp only [Option.bind_some] at hc
          split at hc
          · rename_i h1
            simp at hc; subst hc
            have hx' : Rd0 M.S M.w (a.eval x) (.sl nl rows) := hx
            generalize hev : a.eval x = vx at hx' slk
            cases hx' with
            | nil => simp at hr
            | sl b off len cap k' _ val hn hm hcap hk hcc hrr =>
              have hkr : k' = e.2 := by rw [← hk r (List.mem_of_getElem? hr)]; exact h1
              refine does_val (slk e.1 e.2 he b off len cap rfl h2 (by rw [← hn]; exact h3)) ⟨b, off + n.toNat * e.2, rfl, fun i c hi => ?_⟩
              have hil : i < k' := by
                have := hk r (List.mem_of_getElem? hr)
                have := (List.getElem?_eq_some_iff.1 hi).1
                omega
              have hnl : n.toNat < len := by have := (List.getElem?_eq_some_iff.1 hr).1; omega
              have hlt : n.toNat * k' + i < len * k' := by
                have : (n.toNat + 1) * k' ≤ len * k' := Nat.mul_le_mul_right _ hnl
                rw [Nat.add_mul] at this; omega
              have hcell := hcc _ hlt
              rw [← hkr, Nat.add_assoc]
              exact ⟨.inl hcell.1, _, hcell.2, hrr _ i r c hr hi⟩
          · cases hc
      · cases hc
  | own m g len =>
    simp only [idxC] at hc
    cases he : telem P t with
    | none => rw [he] at hc; simp at hc
    | some e =>
      obtain ⟨bl, hb, hle, hg⟩ := id hx
      rw [he] at hc
      simp only [Option.bind_some, hb] at hc
      split at hc
      · rename_i hcond
        obtain ⟨h0, h1, h2, h3, h4⟩ := hcond
        simp at hc; subst hc
        obtain ⟨hlr, h5⟩ := hg h0
        rw [if_neg (by simp [h2])] at h5
        obtain ⟨cap, cur, hh, hs, hl, hcm, hv⟩ := h5
        refine does_val (slk e.1 e.2 he _ _ len cap hv h3 h4) ⟨bl, hb, hle, fun _ => ⟨h2, by rw [h1]; simp⟩⟩
      · cases hc
  | ip cs =>
    simp only [idxC] at hc
    cases he : tarr P t with
    | none => rw [he] at hc; simp at hc
    | some e =>
      rw [he] at hc
      simp only [Option.bind_some] at hc
      split at hc
      · rename_i hcond
        simp at hc; subst hc
        obtain ⟨b, o', hv, hcc⟩ := id hx
        refine does_val (ark e.1 e.2.1 e.2.2 he b o' hv hcond.1 hcond.2) ⟨b, _, rfl, fun i c hi => ?_⟩
        rw [List.getElem?_drop] at hi
        have := hcc _ c hi
        rwa [← Nat.add_assoc] at this
      · cases hc
  | ptr m g i off =>
    simp only [idxC] at hc
    cases he : tarr P t with
    | none => rw [he] at hc; simp at hc
    | some e =>
      rw [he] at hc
      simp only [Option.bind_some] at hc
      split at hc
      · rename_i hcond
        simp at hc; subst hc
        obtain ⟨bl, hb, hle, hg⟩ := id hx
        have hl := hcond.1
        simp only [liveB, hb] at hl
        obtain ⟨hnl, hv⟩ := hg (by simpa using hl)
        exact does_val (ark e.1 e.2.1 e.2.2 he _ _ hv hcond.2.1 hcond.2.2) ⟨bl, hb, hle, fun _ => ⟨hnl, by rw [Nat.add_assoc]⟩⟩
      · cases hc
  | _ => simp [idxC] at hc
end

section
variable {P : Program} {M : Mem} {a : Act} {o : Oper}

/-! ### flat operations -/

def flats (ρ : Operand → C) (o : Oper) : Bool := o.op.operands.all fun x => (ρ x).flatV.isSome
def flatRun (P : Program) (ρ : Operand → C) (o : Oper) : Option C :=
  if flats ρ o = true then
    match o.op with
    | .select _ _ => none
    | _ => match pureRun P (execOp (fun x => ((ρ x).flatV).getD undef) o) with
      | some (.value v) => ofV v
      | _ => none
  else none
theorem does_flat {ρ : Operand → C} (hρ : ∀ x, Rv M (a.eval x) (ρ x)) {c : C} (hc : flatRun P ρ o = some c) : Does P M a o c := by
  unfold flatRun at hc
  split at hc
  · rename_i hf
    have hsel : ∀ cs b, o.op ≠ .select cs b := by
      intro cs b e
      rw [e] at hc
      cases hc
    have hc' : (match pureRun P (execOp (fun x => ((ρ x).flatV).getD undef) o) with | some (.value v) => ofV v | _ => none) = some c := by
      split at hc
      · cases hc
      · exact hc
    split at hc'
    · rename_i v hv
      have he : execOp a.eval o = execOp (fun x => ((ρ x).flatV).getD undef) o := execOp_congr o hsel fun x hx => by
        have h1 := Array.all_eq_true_iff_forall_mem.1 hf x hx
        cases hfx : (ρ x).flatV with
        | none => rw [hfx] at h1; cases h1
        | some u => exact flat_read (hρ x) hfx
      refine does_val (u := v) ?_ (ofV_read hc')
      rw [he]
      exact pureRun_run _ hv _
    · cases hc'
  · cases hc

/-- Two flat operands, told apart from the rest of the operation. -/
def binV (P : Program) (op : BinOp) (t : TypeId) (x y : Operand) (u v : Value) : Option C :=
  (pureRun P (do eqGuard op t x y u v; binOp op t u v)).bind ofV
theorem does_bin {op : BinOp} {t t2 : TypeId} {x y : Operand} {u v : Value} {cx cy c : C} (ho : o.op = .binOp op t x y t2) (hx : Rv M (a.eval x) cx) (hy : Rv M (a.eval y) cy) (hu : cx.flatV = some u) (hv : cy.flatV = some v)
    (hc : binV P op t x y u v = some c) : Does P M a o c := by
  have hx' := flat_read hx hu
  have hy' := flat_read hy hv
  unfold binV at hc
  cases hp : pureRun P (do eqGuard op t x y u v; binOp op t u v) with
  | none => rw [hp] at hc; simp at hc
  | some r =>
    rw [hp] at hc
    simp only [Option.bind_some] at hc
    refine does_val (u := r) ?_ (ofV_read hc)
    have := pureRun_run _ hp M.w
    simp only [execOp, ho, hx', hy']
    rw [Sem.run_bind, this]
    simp
/-- A slice against nil. -/
theorem does_nilcmp {op : BinOp} {t t2 : TypeId} {x y : Operand} {nl : Bool} {rows : List (List C)} {e : TypeId} (ho : o.op = .binOp op t x y t2) (ht : P.underlying t = some (.slice e))
    (h : (Rv M (a.eval x) (.sl nl rows) ∧ a.eval y = .slice none 0 0) ∨ (Rv M (a.eval y) (.sl nl rows) ∧ a.eval x = .slice none 0 0)) {b : Bool} (hop : (op = .eql ∧ b = nl) ∨ (op = .neq ∧ b = !nl)) : Does P M a o (.v (.bool b)) := by
  have b1 : ∀ u v : Value, (∃ p n c, u = .slice p n c) → (∃ p n c, v = .slice p n c) → (do eqGuard .eql t x y u v; binOp .eql t u v) = (do pure (Value.bool (← Op.equal t u v)) : Sem Value) := by
    rintro u v ⟨p, n, c, rfl⟩ ⟨p', n', c', rfl⟩
    rfl
  have b2 : ∀ u v : Value, (∃ p n c, u = .slice p n c) → (∃ p n c, v = .slice p n c) → (do eqGuard .neq t x y u v; binOp .neq t u v) = (do pure (Value.bool (!(← Op.equal t u v))) : Sem Value) := by
    rintro u v ⟨p, n, c, rfl⟩ ⟨p', n', c', rfl⟩
    rfl
  have key : ∀ p n c, (a.eval x = .slice p n c ∧ a.eval y = .slice none 0 0) ∨ (a.eval y = .slice p n c ∧ a.eval x = .slice none 0 0) → p.isNone = nl → Does P M a o (.v (.bool b)) := by
    intro p n c hh hp
    refine does_val (u := .bool b) ?_ ⟨rfl, rfl⟩
    have eq1 : (Op.equal t (.slice p n c) (.slice none 0 0)).run P M.w = .ok nl M.w := by
      unfold Op.equal
      rw [show Op.maxDepth = 9999 + 1 from rfl, Op.equalIn]
      cases p <;> simp at hp <;> subst hp <;> simp [run_underlying ht]
    have eq2 : (Op.equal t (.slice none 0 0) (.slice p n c)).run P M.w = .ok nl M.w := by
      unfold Op.equal
      rw [show Op.maxDepth = 9999 + 1 from rfl, Op.equalIn]
      cases p <;> simp at hp <;> subst hp <;> simp [run_underlying ht]
    rcases hop with ⟨rfl, rfl⟩ | ⟨rfl, rfl⟩ <;> rcases hh with ⟨h1, h2⟩ | ⟨h1, h2⟩ <;> simp only [execOp, ho, h1, h2] <;>
      first | rw [b1 _ _ ⟨_, _, _, rfl⟩ ⟨_, _, _, rfl⟩] | rw [b2 _ _ ⟨_, _, _, rfl⟩ ⟨_, _, _, rfl⟩]
    all_goals simp [eq1, eq2]
  rcases h with ⟨h1, h2⟩ | ⟨h1, h2⟩
  · have h1' : Rd0 M.S M.w (a.eval x) (.sl nl rows) := h1
    generalize hev : a.eval x = vx at h1' key
    cases h1' with
    | nil => exact key _ _ _ (.inl ⟨rfl, h2⟩) rfl
    | sl b off len cap k _ val hn hm hcap hk hcc hrr => exact key _ _ _ (.inl ⟨rfl, h2⟩) rfl
  · have h1' : Rd0 M.S M.w (a.eval y) (.sl nl rows) := h1
    generalize hev : a.eval y = vx at h1' key
    cases h1' with
    | nil => exact key _ _ _ (.inr ⟨rfl, h2⟩) rfl
    | sl b off len cap k _ val hn hm hcap hk hcc hrr => exact key _ _ _ (.inr ⟨rfl, h2⟩) rfl

/-! ### making values -/

theorem does_extract {x : Operand} {i : Nat} {cs : List C} {c : C} (ho : o.op = .extract x i) (hx : Rv M (a.eval x) (.tup cs)) (hc : cs[i]? = some c) : Does P M a o c := by
  obtain ⟨vs, hv, h1, h2⟩ := hx
  have hl : i < vs.size := by have := (List.getElem?_eq_some_iff.1 hc).1; omega
  have h3 := h2 i c hc
  rw [Array.getD_eq_getD_getElem?, Array.getElem?_eq_getElem hl] at h3
  refine does_val (u := vs[i]) (by simp [execOp, ho, hv, Instr.extract, hl]) ?_
  have h4 : Ra M vs[i] c := by simpa using h3
  cases c <;> first | exact h4 | exact h4.elim
theorem does_func {f : FuncId} {captured : Array Operand} {cs : List C} (ho : o.op = .makeFunc (.func f) #[] captured) (hl : cs.length = captured.size) (hc : ∀ (i : Nat) (c : C) (x : Operand), cs[i]? = some c → captured[i]? = some x → Rp M (a.eval x) c) : Does P M a o (.fn f cs) := by
  refine does_val (u := .func (.func f) #[] (captured.map a.eval)) (by simp [execOp, ho, Instr.makeFunc]) ⟨_, rfl, by simp [hl], fun i c hi => ?_⟩
  have hil : i < captured.size := by have := (List.getElem?_eq_some_iff.1 hi).1; omega
  have := hc i c captured[i] hi (Array.getElem?_eq_getElem hil)
  simpa [Array.getD_eq_getD_getElem?, hil] using this

def buildC (P : Program) (H : List Blk) (t : TypeId) (ps : List (Nat × C)) : Option C :=
  (tzero P t).bind fun z => (tplaces P t).bind fun pl => (fillC H (fun i => pl[i]?) (z.map .v) ps).map .agg
theorem zero_RL {z : List Value} (hz : ∀ u ∈ z, u.oneCell' = true) : RL M z.toArray (z.map .v) := by
  refine ⟨by simp, fun i c hi => ?_⟩
  rw [List.getElem?_map] at hi
  cases hc : z[i]? with
  | none => rw [hc] at hi; simp at hi
  | some u =>
    rw [hc] at hi; simp at hi; subst hi
    exact ⟨by simp [Array.getD_eq_getD_getElem?, hc], hz u (List.mem_of_getElem? hc)⟩
theorem tzero_run {t : TypeId} {z : List Value} (h : tzero P t = some z) : ∃ zv : Value, (∀ w, (zeroValue t).run P w = .ok zv w) ∧ zv.cells = z.toArray ∧ ∀ u ∈ z, u.oneCell' = true := by
  unfold tzero at h
  cases hi : P.info? t with
  | none => rw [hi] at h; simp at h
  | some i =>
    cases hz : i.zero with
    | none => rw [hi] at h; simp [hz] at h
    | some zv =>
      rw [hi] at h
      simp only [Option.bind_some, hz] at h
      split at h
      · rename_i ha
        simp at h; subst h
        exact ⟨zv, fun w => by simp [zeroValue, typeInfo, hi, hz], by simp, fun u hu => Array.all_eq_true_iff_forall_mem.1 ha u (by simpa using hu)⟩
      · cases h
theorem does_build {t : TypeId} {ps : Array (Nat × Operand)} {cs : List (Nat × C)} {c : C} (ho : o.op = .build t ps) (hl : cs.length = ps.size) (hps : ∀ (j i : Nat) (c : C), cs[j]? = some (i, c) → ∃ x, ps[j]? = some (i, x) ∧ Rv M (a.eval x) c)
    (hc : buildC P M.H t cs = some c) : Does P M a o c := by
  unfold buildC at hc
  cases hz : tzero P t with
  | none => rw [hz] at hc; simp at hc
  | some z =>
    rw [hz] at hc
    simp only [Option.bind_some] at hc
    cases hp : tplaces P t with
    | none => rw [hp] at hc; simp at hc
    | some pl =>
      rw [hp] at hc
      simp only [Option.bind_some, Option.map_eq_some_iff] at hc
      obtain ⟨r, hr, rfl⟩ := hc
      obtain ⟨zv, hzr, hzc, hone⟩ := tzero_run hz
      obtain ⟨out, hout, hR⟩ := fill_read (M := M) (fun i => pl[i]?) cs (ps.toList.map fun p => (p.1, a.eval p.2)) (by simp [hl]) (fun j i c hj => by
        obtain ⟨x, hx, hv⟩ := hps j i c hj
        refine ⟨a.eval x, ?_, hv⟩
        have hjl : j < ps.size := (Array.getElem?_eq_some_iff.1 hx).1
        rw [List.getElem?_map]
        simp [hjl]
        rw [Array.getElem?_eq_getElem hjl] at hx
        simp at hx
        simp [hx]) (zero_RL (M := M) hone) hr
      unfold tplaces at hp
      split at hp
      · rename_i fs hfs
        have hpl := run_places (P := P) M.w fs.toList pl hp
        refine does_val (u := .agg out) ?_ ⟨out, rfl, hR.1, hR.2⟩
        have hzr' := hzr M.w
        have hparts : (ps.map fun (x : Nat × Operand) => (x.1, a.eval x.2)).toList = ps.toList.map fun p => (p.1, a.eval p.2) := by simp
        simp only [execOp, ho, Instr.build, Sem.run_bind, hzr', Result.andThen_ok, run_underlying hfs]
        have hpl2 : (fs.mapM fun f => do pure (f.offset, ← sizeOf f.type) : Sem (Array (Nat × Nat))).run P M.w = .ok pl.toArray M.w := by
          rw [Array.mapM_eq_mapM_toList]
          simp [hpl]
        rw [hpl2]
        simp only [Result.andThen_ok, hzc]
        have : (fun (i : Nat) => (pl.toArray[i]? : Option (Nat × Nat))) = fun (i : Nat) => (pl[i]? : Option (Nat × Nat)) := by funext i; simp
        rw [this, hparts, hout]
        rfl
      · cases hp
end

section
variable {P : Program} {M : Mem} {a : Act} {o : Oper}

/-! ### new memory that is not written any more -/

theorem fresh_S (hM : Rep M) {w' : World} (h : M.w.heap.size < w'.heap.size) (i : Nat) : (M.later w').S M.w.heap.size i :=
  .inr ⟨hM.hBw, h, fun n bl hn hnl hβ => by
    have h1 : M.β n < M.w.heap.size := hM.lt (n := n) (bl := bl) hn hnl
    have h2 : M.β n = M.w.heap.size := hβ
    omega⟩
theorem below_alloc (w : World) (o : Obj) : Below w.heap.size w (w.alloc o) := (Below.refl _ _).alloc (Nat.le_refl _) o

def boxC (H : List Blk) (c : C) : Option C := (partC H c).bind fun cs => if cs.all C.deep = true then some (.ip cs) else none
theorem does_box (hM : Rep M) {t : TypeId} {x : Operand} {cx c : C} (ho : o.op = .box t x) (hx : Rv M (a.eval x) cx) (hc : boxC M.H cx = some c) : Does P M a o c := by
  unfold boxC at hc
  cases hp : partC M.H cx with
  | none => rw [hp] at hc; simp at hc
  | some cs =>
    rw [hp] at hc
    simp only [Option.bind_some] at hc
    split at hc
    · rename_i hd
      simp at hc; subst hc
      have hR := part_cells hx hp
      have hb := below_alloc M.w (.cells (a.eval x).cells t)
      refine .inl ⟨.pointer (some ⟨M.w.heap.size, 0, none⟩), M.w.alloc (.cells (a.eval x).cells t), ?_, hb, M.w.heap.size, 0, rfl, fun i c hi => ?_⟩
      · simp [execOp, ho, Instr.box, newVar, newRow]
      · refine ⟨.inl (fresh_S hM (by simp) _), (a.eval x).cells.getD i undef, ?_, ?_⟩
        · have hl : i < (a.eval x).cells.size := by have := (List.getElem?_eq_some_iff.1 hi).1; have := hR.1; omega
          show (M.w.alloc _).cell? _ = _
          rw [Nat.zero_add, World.cell?_alloc_new]
          simp [Array.getD_eq_getD_getElem?, hl]
        · exact Rd0.keep (grew hM hb).2.S (deep_rd (hR.2 i c hi) (List.all_eq_true.1 hd c (List.mem_of_getElem? hi)))
    · cases hc

def repC : Nat → List C → List C
  | 0, _ => []
  | n + 1, z => z ++ repC n z
def chunkC (k : Nat) : Nat → List C → List (List C)
  | 0, _ => []
  | n + 1, l => l.take k :: chunkC k n (l.drop k)
theorem repC_len (z : List C) : ∀ n, (repC n z).length = n * z.length
  | 0 => by simp [repC]
  | n + 1 => by simp [repC, repC_len z n, Nat.add_mul, Nat.add_comm]
theorem repC_get (z : List C) : ∀ n i, i < n * z.length → (repC n z)[i]? = z[i % z.length]?
  | 0, i, h => by simp at h
  | n + 1, i, h => by
    simp only [repC]
    by_cases hi : i < z.length
    · rw [List.getElem?_append_left hi, Nat.mod_eq_of_lt hi]
    · rw [List.getElem?_append_right (by omega), repC_get z n (i - z.length) (by rw [Nat.add_mul] at h; omega)]
      rw [Nat.mod_eq_sub_mod (by omega : i ≥ z.length)]
theorem chunkC_len (k : Nat) : ∀ n (l : List C), (chunkC k n l).length = n
  | 0, _ => rfl
  | n + 1, l => by simp [chunkC, chunkC_len k n]
theorem chunkC_get (k : Nat) : ∀ n (l : List C), l.length = n * k → ∀ (i : Nat) (r : List C), (chunkC k n l)[i]? = some r → r.length = k ∧ ∀ (j : Nat) (c : C), r[j]? = some c → l[i * k + j]? = some c
  | 0, l, _, i, r, h => by simp [chunkC] at h
  | n + 1, l, hl, i, r, h => by
    rw [Nat.add_mul] at hl
    cases i with
    | zero =>
      simp [chunkC] at h
      subst h
      refine ⟨by simp; omega, fun j c hj => ?_⟩
      rw [List.getElem?_take] at hj
      split at hj
      · simpa using hj
      · cases hj
    | succ i =>
      simp [chunkC] at h
      obtain ⟨h1, h2⟩ := chunkC_get k n (l.drop k) (by simp; omega) i r h
      refine ⟨h1, fun j c hj => ?_⟩
      have := h2 j c hj
      rw [List.getElem?_drop] at this
      rw [Nat.add_mul, show i * k + 1 * k + j = k + (i * k + j) by omega]
      exact this

def bsC (P : Program) (H : List Blk) (t : TypeId) (len : Nat) (ps : List (Nat × C)) : Option C :=
  (telem P t).bind fun e => (tzero P e.1).bind fun z =>
    if 0 < e.2 ∧ z.length = e.2 ∧ 0 < len ∧ len * e.2 ≤ 65536 then
      (fillC H (fun i => some (i * e.2, e.2)) (repC len (z.map .v)) ps).bind fun cs => if cs.all C.deep = true then some (.sl false (chunkC e.2 len cs)) else none
    else none
theorem telem_spec {t e : TypeId} {k : Nat} (h : telem P t = some (e, k)) : P.underlying t = some (.slice e) ∧ ∃ i, P.info? e = some i ∧ i.size = k := by
  unfold telem at h
  split at h
  · rename_i e0 hd
    unfold tsize at h
    cases hi : P.info? e0 with
    | none => rw [hi] at h; simp at h
    | some i =>
      rw [hi] at h
      simp at h
      obtain ⟨rfl, rfl⟩ := h
      exact ⟨hd, i, hi, rfl⟩
  · cases h
theorem fresh_sl (hM : Rep M) {e : TypeId} {k n : Nat} {out : Array Value} {cs : List C} (hR : RL M out cs) (hd : cs.all C.deep = true) (hl : cs.length = n * k) (hn : n ≤ maxLen) :
    Rd0 (M.later (M.w.alloc (.cells out e))).S (M.w.alloc (.cells out e)) (.slice (some ⟨M.w.heap.size, 0, none⟩) n n) (.sl false (chunkC k n cs)) := by
  have hb := below_alloc M.w (.cells out e)
  refine .sl M.w.heap.size 0 n n k _ (fun i => out.getD i undef) (chunkC_len k n cs) hn (Nat.le_refl _) (fun r hr => ?_) (fun i hi => ⟨fresh_S hM (by simp) _, ?_⟩) (fun i j r c hi hj => ?_)
  · obtain ⟨i, hi⟩ := List.mem_iff_getElem?.1 hr
    exact (chunkC_get k n cs hl i r hi).1
  · rw [Nat.zero_add, World.cell?_alloc_new]
    have : i < out.size := by have := hR.1; omega
    simp [Array.getD_eq_getD_getElem?, this]
  · have := (chunkC_get k n cs hl i r hi).2 j c hj
    exact Rd0.keep (grew hM hb).2.S (deep_rd (hR.2 _ c this) (List.all_eq_true.1 hd c (List.mem_of_getElem? this)))
theorem does_buildSlice (hM : Rep M) {t : TypeId} {len : Nat} {ps : Array (Nat × Operand)} {cs : List (Nat × C)} {c : C} (ho : o.op = .buildSlice t len ps) (hl : cs.length = ps.size)
    (hps : ∀ (j i : Nat) (c : C), cs[j]? = some (i, c) → ∃ x, ps[j]? = some (i, x) ∧ Rv M (a.eval x) c) (hc : bsC P M.H t len cs = some c) : Does P M a o c := by
  unfold bsC at hc
  cases he : telem P t with
  | none => rw [he] at hc; simp at hc
  | some e =>
    obtain ⟨e, k⟩ := e
    rw [he] at hc
    simp only [Option.bind_some] at hc
    cases hz : tzero P e with
    | none => rw [hz] at hc; simp at hc
    | some z =>
      rw [hz] at hc
      simp only [Option.bind_some] at hc
      split at hc
      · rename_i hcond
        obtain ⟨hk, hzl, hlen, hsm⟩ := hcond
        cases hfl : fillC M.H (fun i => some (i * k, k)) (repC len (z.map .v)) cs with
        | none => rw [hfl] at hc; simp at hc
        | some r =>
          rw [hfl] at hc
          simp only [Option.bind_some] at hc
          split at hc
          · rename_i hd
            simp at hc; subst hc
            obtain ⟨hu, ie, hie, hiek⟩ := telem_spec he
            obtain ⟨zv, hzr, hzc, hone⟩ := tzero_run hz
            have hzi : ie.zero = some zv := by
              unfold tzero at hz
              rw [hie] at hz
              simp only [Option.bind_some] at hz
              have := hzr M.w
              unfold zeroValue at this
              simp [typeInfo, hie] at this
              cases hzz : ie.zero with
              | none => rw [hzz] at hz; cases hz
              | some zv' =>
                rw [hzz] at this
                simp at this
                rw [this]
            have hzl' : (z.map C.v).length = k := by simpa using hzl
            have hR0 : RL M ((Array.range (len * k)).map (zv.cells[· % zv.cells.size]!)) (repC len (z.map .v)) := by
              refine ⟨by simp [repC_len, hzl], fun i c hi => ?_⟩
              have hil : i < len * k := by have := (List.getElem?_eq_some_iff.1 hi).1; rwa [repC_len, hzl'] at this
              rw [repC_get _ _ _ (by rwa [hzl']), hzl', List.getElem?_map] at hi
              have hml : i % k < z.length := by rw [hzl]; exact Nat.mod_lt _ hk
              rw [List.getElem?_eq_getElem hml] at hi
              simp at hi
              subst hi
              have hcell : ((Array.range (len * k)).map (zv.cells[· % zv.cells.size]!)).getD i undef = z[i % k] := by
                rw [hzc]
                simp [Array.getD_eq_getD_getElem?, hil, hzl]
                rw [List.getElem?_eq_getElem hml]; rfl
              rw [hcell]
              exact ⟨rfl, hone _ (List.getElem_mem hml)⟩
            obtain ⟨out, hout, hR⟩ := fill_read (M := M) (fun i => some (i * k, k)) cs (ps.toList.map fun p => (p.1, a.eval p.2)) (by simp [hl]) (fun j i c hj => by
              obtain ⟨x, hx, hv⟩ := hps j i c hj
              refine ⟨a.eval x, ?_, hv⟩
              have hjl : j < ps.size := (Array.getElem?_eq_some_iff.1 hx).1
              rw [List.getElem?_map]
              simp [hjl]
              rw [Array.getElem?_eq_getElem hjl] at hx
              simp at hx
              simp [hx]) hR0 hfl
            subst hiek
            have hpos : 0 < len * ie.size := Nat.mul_pos hlen hk
            have hrun := run_buildSlice (P := P) M.w t e len (ps.map fun (i, x) => (i, a.eval x)) out ie zv hu hie hzi (by omega) (by omega) (by simpa using hout)
            have hrl : r.length = len * ie.size := by
              have h1 : ∀ (ps : List (Nat × C)) (cs r : List C), fillC M.H (fun i => some (i * ie.size, ie.size)) cs ps = some r → r.length = cs.length := by
                have ov : ∀ (off : Nat) (xs : List (C × Nat)) (cells : List C), (overC off xs cells).length = cells.length := by
                  intro off xs
                  induction xs with
                  | nil => intro cells; rfl
                  | cons x xs ih => intro cells; obtain ⟨c, j⟩ := x; simp [overC, ih]
                intro ps
                induction ps with
                | nil => intro cs r h; simp [fillC] at h; rw [h]
                | cons p ps ih =>
                  intro cs r h
                  obtain ⟨i, c⟩ := p
                  simp only [fillC, Option.bind_some] at h
                  cases hq : partC M.H c with
                  | none => rw [hq] at h; simp at h
                  | some xs =>
                    rw [hq] at h
                    simp only [Option.bind_some] at h
                    split at h
                    · have := ih _ _ h
                      rw [ov] at this
                      exact this
                    · cases h
              rw [h1 _ _ _ hfl, repC_len, hzl']
            refine .inl ⟨_, _, ?_, below_alloc M.w (.cells out e), fresh_sl hM hR hd hrl (by unfold maxLen; have : len ≤ len * ie.size := Nat.le_mul_of_pos_right _ hk; omega)⟩
            simp [execOp, ho, hrun]
          · cases hc
      · cases hc
end

section
variable {P : Program} {M : Mem} {a : Act} {o : Oper}

/-! ### slices of slices, lengths, calls -/

def bndC (d : Int) : Option C → Option Int
  | none => some d
  | some (.v (.int _ n)) => some n
  | _ => none
def sliceC (P : Program) (t : TypeId) (nl : Bool) (rows : List (List C)) (lo hi : Option C) : Option C :=
  (telem P t).bind fun e => (bndC 0 lo).bind fun l => (bndC rows.length hi).bind fun h =>
    if (∀ r ∈ rows, r.length = e.2) ∧ 0 ≤ l ∧ l ≤ h ∧ h ≤ rows.length then some (.sl nl ((rows.drop l.toNat).take (h.toNat - l.toNat))) else none
theorem run_bound {v : Value} {y : Nat} {code : BoundsCode} {k : IntKind} {n : Int} (hv : v = .int k n) (h0 : 0 ≤ n) (h1 : n ≤ y) (w : World) : (Instr.sliceBound v y code).run P w = .ok n.toNat w := by
  subst hv
  simp [Instr.sliceBound, asIntOf, h0, h1]
theorem bnd_int {d n : Int} {x : Option Operand} {cx : Option C} (hx : ∀ c, cx = some c → ∃ y, x = some y ∧ Rv M (a.eval y) c) (hn : cx = none → x = none) (h : bndC d cx = some n) :
    (x = none ∧ n = d) ∨ ∃ y k, x = some y ∧ a.eval y = .int k n := by
  cases cx with
  | none => simp [bndC] at h; exact .inl ⟨hn rfl, h.symm⟩
  | some c =>
    obtain ⟨y, hy, hv⟩ := hx c rfl
    cases c with
    | v u =>
      cases u with
      | int k m => simp [bndC] at h; subst h; exact .inr ⟨y, k, hy, hv.1⟩
      | _ => simp [bndC] at h
    | _ => simp [bndC] at h
theorem does_slice {t : TypeId} {x : Operand} {lo hi : Option Operand} {nl : Bool} {rows : List (List C)} {cl ch : Option C} {c : C} (ho : o.op = .slice t x lo hi none) (hx : Rv M (a.eval x) (.sl nl rows))
    (hl1 : ∀ c, cl = some c → ∃ y, lo = some y ∧ Rv M (a.eval y) c) (hl2 : cl = none → lo = none) (hh1 : ∀ c, ch = some c → ∃ y, hi = some y ∧ Rv M (a.eval y) c) (hh2 : ch = none → hi = none)
    (hc : sliceC P t nl rows cl ch = some c) : Does P M a o c := by
  unfold sliceC at hc
  cases he : telem P t with
  | none => rw [he] at hc; simp at hc
  | some e =>
    obtain ⟨e, k'⟩ := e
    rw [he] at hc
    simp only [Option.bind_some] at hc
    cases hbl : bndC 0 cl with
    | none => rw [hbl] at hc; simp at hc
    | some l =>
      rw [hbl] at hc
      simp only [Option.bind_some] at hc
      cases hbh : bndC rows.length ch with
      | none => rw [hbh] at hc; simp at hc
      | some h =>
        rw [hbh] at hc
        simp only [Option.bind_some] at hc
        split at hc
        · rename_i hcond
          obtain ⟨hall, h0, hlh, hhr⟩ := hcond
          simp at hc; subst hc
          obtain ⟨hu, ie, hie, hik⟩ := telem_spec he
          have hx' : Rd0 M.S M.w (a.eval x) (.sl nl rows) := hx
          have hsz : (sizeOf e).run P M.w = .ok k' M.w := run_sizeOf_of (by simp [tsize, hie, hik]) M.w
          generalize hev : a.eval x = vx at hx'
          cases hx' with
          | nil =>
            simp only [List.length_nil, Int.ofNat_eq_natCast] at hhr hbh
            have hl0 : l = 0 := by simp at hhr; omega
            have hh0 : h = 0 := by simp at hhr; omega
            subst hl0
            subst hh0
            refine does_val (u := .slice none 0 0) ?_ (by simp only [List.drop_nil, List.take_nil]; exact Rd0.nil)
            have b1 : (Instr.sliceBounds true 0 0 (lo.map a.eval) (hi.map a.eval) none).run P M.w = .ok (0, 0, 0) M.w := by
              rcases bnd_int hh1 hh2 hbh with ⟨rfl, _⟩ | ⟨y, kk, rfl, hy⟩
              · rcases bnd_int hl1 hl2 hbl with ⟨rfl, _⟩ | ⟨y', kk', rfl, hy'⟩
                · simp [Instr.sliceBounds]
                · have b2 := run_bound (P := P) (y := 0) (code := .sliceB) hy' (by omega) (by omega) M.w
                  simp at b2
                  simp [Instr.sliceBounds, b2]
              · have b2 := run_bound (P := P) (y := 0) (code := .sliceAcap) hy (by omega) (by omega) M.w
                simp at b2
                rcases bnd_int hl1 hl2 hbl with ⟨rfl, _⟩ | ⟨y', kk', rfl, hy'⟩
                · simp [Instr.sliceBounds, b2]
                · have b3 := run_bound (P := P) (y := 0) (code := .sliceB) hy' (by omega) (by omega) M.w
                  simp at b3
                  simp [Instr.sliceBounds, b2, b3]
            simp only [execOp, ho, hev, Instr.sliceAt, Instr.slice]
            simp [run_underlying hu, b1, hsz]
          | sl b off n cap k2 _ val hn hm hcap hk hcc hrr =>
            have hnew : (∀ r ∈ rows, r.length = k') ∧ (∀ i, i < n * k' → M.S b (off + i) ∧ M.w.cell? ⟨b, off + i, none⟩ = some (val i)) ∧ (∀ i j r c, rows[i]? = some r → r[j]? = some c → Rd0 M.S M.w (val (i * k' + j)) c) := by
              by_cases hrows : rows = []
              · subst hrows
                simp at hn
                subst hn
                exact ⟨(fun r hr => by cases hr), (fun i hi => by simp at hi), (fun i j r c hi => by simp at hi)⟩
              · have hkk : k2 = k' := by
                  obtain ⟨r, rest, rfl⟩ := List.exists_cons_of_ne_nil hrows
                  rw [← hk r List.mem_cons_self]; exact hall r List.mem_cons_self
                subst hkk
                exact ⟨hk, hcc, hrr⟩
            clear hk hcc hrr
            obtain ⟨hk, hcc, hrr⟩ := hnew
            have b1 : (Instr.sliceBounds true n cap (lo.map a.eval) (hi.map a.eval) none).run P M.w = .ok (l.toNat, h.toNat, cap) M.w := by
              rcases bnd_int hh1 hh2 hbh with ⟨rfl, rfl⟩ | ⟨y, kk, rfl, hy⟩
              · rcases bnd_int hl1 hl2 hbl with ⟨rfl, rfl⟩ | ⟨y', kk', rfl, hy'⟩
                · simp [Instr.sliceBounds, hn]
                · have b2 := run_bound (P := P) (y := n) (code := .sliceB) hy' h0 (by omega) M.w
                  simp [Instr.sliceBounds, hn, b2]
              · have b2 := run_bound (P := P) (y := cap) (code := .sliceAcap) hy (by omega) (by omega) M.w
                rcases bnd_int hl1 hl2 hbl with ⟨rfl, rfl⟩ | ⟨y', kk', rfl, hy'⟩
                · simp [Instr.sliceBounds, hn, b2]
                · have b3 := run_bound (P := P) (y := h.toNat) (code := .sliceB) hy' h0 (by omega) M.w
                  simp [Instr.sliceBounds, hn, b2, b3]
            have hrun : (execOp a.eval o).run P M.w = .ok (.value (.slice (if cap = l.toNat then some ⟨b, off, none⟩ else some ⟨b, off + l.toNat * k', none⟩) (h.toNat - l.toNat) (cap - l.toNat))) M.w := by
              simp only [execOp, ho, hev, Instr.sliceAt, Instr.slice]
              simp [run_underlying hu, b1, hsz, add_lit]
            refine does_val hrun ?_
            have hlen : ((rows.drop l.toNat).take (h.toNat - l.toNat)).length = h.toNat - l.toNat := by simp; omega
            by_cases hcl : cap = l.toNat
            · rw [if_pos hcl]
              have h3 : h.toNat - l.toNat = 0 := by omega
              refine Rd0.sl b off _ _ k' _ (fun _ => undef) hlen (by omega) (by omega) (fun r hr => ?_) (fun i hi => ?_) (fun i j r c hi => ?_)
              · rw [h3] at hr; simp at hr
              · rw [h3] at hi; simp at hi
              · rw [h3] at hi; simp at hi
            · rw [if_neg hcl]
              refine Rd0.sl b (off + l.toNat * k') _ _ k' _ (fun i => val (l.toNat * k' + i)) hlen (by omega) (by omega) (fun r hr => hk r (List.mem_of_mem_drop (List.mem_of_mem_take hr))) (fun i hi => ?_) (fun i j r c hi hj => ?_)
              · have hlt : l.toNat * k' + i < n * k' := by
                  have h4 : l.toNat * k' + (h.toNat - l.toNat) * k' ≤ n * k' := by
                    rw [← Nat.add_mul]
                    exact Nat.mul_le_mul_right _ (by omega)
                  omega
                have := hcc _ hlt
                rw [Nat.add_assoc]
                exact this
              · rw [List.getElem?_take] at hi
                split at hi
                · rw [List.getElem?_drop] at hi
                  have := hrr _ j r c hi hj
                  rw [Nat.add_mul, Nat.add_assoc] at this
                  exact this
                · cases hi
        · cases hc

def tlenOK (P : Program) (t : TypeId) : Bool := match P.underlying t with | some (.slice _) => true | _ => false
theorem does_len {t ty : TypeId} {x : Operand} {n : Nat} (ho : o.op = .call ⟨.builtin .len, #[x], #[t]⟩) (ht : tlenOK P t = true) (hv : ∃ p c, a.eval x = .slice p n c) : Does P M a o (.v (goInt n)) := by
  obtain ⟨p, c, hv⟩ := hv
  unfold tlenOK at ht
  split at ht
  · rename_i e hu
    refine does_val (u := goInt n) ?_ ⟨rfl, rfl⟩
    simp [execOp, ho, resolve, invoke, builtin, Builtin.len_, run_underlying hu, hv]
  · cases ht
theorem sl_val {v : Value} {nl : Bool} {rows : List (List C)} (h : Rv M v (.sl nl rows)) : ∃ p c, v = .slice p rows.length c := by
  have h' : Rd0 M.S M.w v (.sl nl rows) := h
  cases h' with
  | nil => exact ⟨_, _, rfl⟩
  | sl b off n cap _ _ val hn hm hcap hk hcc hrr => subst hn; exact ⟨_, _, rfl⟩
theorem own_val (hM : Rep M) {v : Value} {n g len : Nat} (h : Rv M v (.own n g len)) (hl : liveB M.H (.own n g len) = true) : ∃ p c, v = .slice p len c := by
  obtain ⟨bl, hb, hle, hg⟩ := h
  simp only [liveB, hb] at hl
  obtain ⟨hlr, h2⟩ := hg (by simpa using hl)
  split at h2
  · subst h2
    rename_i hnl
    have : bl.rows = [] := hM.nil n bl hb hnl
    rw [this] at hlr
    simp at hlr
    subst hlr
    exact ⟨_, _, rfl⟩
  · obtain ⟨cap, cur, _, _, _, _, rfl⟩ := h2; exact ⟨_, _, rfl⟩

/-- What is called, and with what. -/
def calleeC (ρ : Operand → C) (c : Call) : Option (FuncId × List C) :=
  match c.callee with
  | .value f => match ρ f with
    | .v (.func (.func g) ⟨[]⟩ ⟨[]⟩) => some (g, c.args.toList.map ρ)
    | .fn g caps => some (g, c.args.toList.map ρ ++ caps)
    | _ => none
  | _ => none
theorem callee_run {ρ : Operand → C} (hρ : ∀ x, Rv M (a.eval x) (ρ x)) {c : Call} {g : FuncId} {cs : List C} (ho : o.op = .call c) (hc : calleeC ρ c = some (g, cs)) (he : EntersAt P g) :
    ∃ vs, (execOp a.eval o).run P M.w = .ok (.enter g vs) M.w ∧ Rvs M vs cs := by
  obtain ⟨callee, args, tys⟩ := c
  unfold calleeC at hc
  cases callee with
  | value f =>
    simp only at hc
    have hf := hρ f
    have hargs : ∀ (i : Nat) (c : C), (args.toList.map ρ)[i]? = some c → Rv M ((args.map a.eval).getD i undef) c := by
      intro i c hi
      rw [List.getElem?_map] at hi
      cases hx : args.toList[i]? with
      | none => rw [hx] at hi; simp at hi
      | some x =>
        rw [hx] at hi
        simp at hi; subst hi
        have hl : i < args.size := by have := (List.getElem?_eq_some_iff.1 hx).1; simpa using this
        have hxe : args[i] = x := by have := (List.getElem?_eq_some_iff.1 hx).2; simpa using this
        have : (args.map a.eval).getD i undef = a.eval x := by simp [Array.getD_eq_getD_getElem?, hl, hxe]
        rw [this]
        exact hρ x
    generalize hcf : ρ f = cf at hc hf
    split at hc
    · rename_i g' 
      simp at hc
      obtain ⟨rfl, rfl⟩ := hc
      have hv : a.eval f = .func (.func g') #[] #[] := hf.1
      refine ⟨args.map a.eval, ?_, by simp, fun i c hi => hargs i c hi⟩
      simp [execOp, ho, resolve, hv, Deferred.ofValue, invoke, he _ _]
    · rename_i g' caps
      simp at hc
      obtain ⟨rfl, rfl⟩ := hc
      obtain ⟨vs, hv, hs, hcc⟩ := hf
      refine ⟨args.map a.eval ++ vs, ?_, by simp [hs], fun i c hi => ?_⟩
      · simp [execOp, ho, resolve, hv, Deferred.ofValue, invoke, he _ _]
      · by_cases hil : i < args.size
        · rw [List.getElem?_append_left (by simpa using hil)] at hi
          have := hargs i c hi
          rw [Array.getD_eq_getD_getElem?] at this ⊢
          rwa [Array.getElem?_append_left (by simpa using hil)]
        · rw [List.getElem?_append_right (by simp; omega)] at hi
          have := hcc _ c hi
          rw [Array.getD_eq_getD_getElem?] at this ⊢
          rw [Array.getElem?_append_right (by simp; omega)]
          simp at this ⊢
          exact this.rv
    · cases hc
  | _ => cases hc
theorem does_call {G : GT} {kp : FuncId → List C → Option C} (hkp : ∀ f, SpecP P G f (kp f)) (hM : Rep M) (hG : GOK G M) {ρ : Operand → C} (hρ : ∀ x, Rv M (a.eval x) (ρ x)) {c : Call} {g : FuncId} {cs cs' : List C} {r : C}
    (ho : o.op = .call c) (hc : calleeC ρ c = some (g, cs)) (hv : cs.mapM (viewA M.H) = some cs') (hr : kp g cs' = some r) : Does P M a o r := by
  obtain ⟨vs, hrun, hvs⟩ := callee_run hρ ho hc (hkp g cs' r hr).1
  exact .inr ⟨g, vs, hrun, (pure_call (hkp g) hM hG hvs hv hr).2⟩
end

/-! ## Structs of plain cells compared -/

inductive Kd where
  | b
  | i (k : IntKind)
  | s
  deriving DecidableEq
def Kd.is : Kd → Value → Bool
  | .b, .bool _ => true
  | .i k, .int k' _ => decide (k = k')
  | .s, .string _ => true
  | _, _ => false
def vEq : Value → Value → Bool
  | .bool a, .bool b => decide (a = b)
  | .int _ a, .int _ b => decide (a = b)
  | .string a, .string b => decide (a = b)
  | _, _ => false
def allEq : List Value → List Value → Bool
  | x :: xs, y :: ys => vEq x y && allEq xs ys
  | _, _ => true
def matchK : List Kd → List Value → Bool
  | [], [] => true
  | k :: ks, v :: vs => k.is v && matchK ks vs
  | _, _ => false
/-- The plain cells of a type. -/
def catK (P : Program) (g : TypeId → Option (List Kd)) : List Field → Nat → Option (List Kd)
  | [], _ => some []
  | f :: fs, off => if f.name ≠ "_" ∧ f.offset = off then
      (g f.type).bind fun ks => (catK P g fs (off + ks.length)).map (ks ++ ·) else none
def tkinds (P : Program) : Nat → TypeId → Option (List Kd)
  | 0, _ => none
  | d + 1, t => match P.underlying t with
    | some .bool => some [.b]
    | some (.int k) => some [.i k]
    | some .string => some [.s]
    | some (.struct fs) => if P.stoodInHeld t = false then (catK P (tkinds P d) fs.toList 0).bind fun ks => if tsize P t = some ks.length then some ks else none else none
    | _ => none

theorem allEq_append : ∀ (a b c d : List Value), a.length = c.length → allEq (a ++ b) (c ++ d) = (allEq a c && allEq b d)
  | [], b, [], d, _ => by simp [allEq]
  | x :: a, b, y :: c, d, h => by simp [allEq, allEq_append a b c d (by simpa using h), Bool.and_assoc]
theorem matchK_len : ∀ (ks : List Kd) (vs : List Value), matchK ks vs = true → vs.length = ks.length
  | [], [], _ => rfl
  | k :: ks, v :: vs, h => by
    simp only [matchK, Bool.and_eq_true] at h
    simp [matchK_len ks vs h.2]
theorem matchK_append : ∀ (a b : List Kd) (vs : List Value), matchK (a ++ b) vs = true → matchK a (vs.take a.length) = true ∧ matchK b (vs.drop a.length) = true
  | [], b, vs, h => ⟨by simp [matchK], by simpa using h⟩
  | k :: a, b, v :: vs, h => by
    simp only [List.cons_append, matchK, Bool.and_eq_true] at h
    have := matchK_append a b vs h.2
    simp [matchK, h.1, this.1, this.2]
/-- The value of plain cells at a type. -/
def isAggK (P : Program) (t : TypeId) : Bool := match P.underlying t with | some (.struct _) => true | _ => false
def valK (P : Program) (t : TypeId) (vs : List Value) : Value := if isAggK P t = true then .agg vs.toArray else vs.headD undef
theorem part_valK {P : Program} {d : Nat} {t : TypeId} {ks : List Kd} (hk : tkinds P d t = some ks) (xs : Array Value) (off : Nat) (hm : matchK ks ((xs.toList.drop off).take ks.length) = true) (w : World) :
    (part t xs off).run P w = .ok (valK P t ((xs.toList.drop off).take ks.length)) w := by
  have hlen := matchK_len _ _ hm
  cases d with
  | zero => simp [tkinds] at hk
  | succ d =>
    unfold tkinds at hk
    have plain : (∀ fs, P.underlying t ≠ some (.struct fs)) → (∃ desc, P.underlying t = some desc ∧ ∀ n e, desc ≠ .array n e) → ks.length = 1 → (part t xs off).run P w = .ok (valK P t ((xs.toList.drop off).take ks.length)) w := by
      rintro hns ⟨desc, hd, harr⟩ h1
      have hagg : (isAgg t).run P w = .ok false w := by
        unfold isAgg
        rw [Sem.run_bind, run_underlying hd, Result.andThen_ok]
        cases desc <;> first | rfl | (exact absurd hd (hns _)) | (exact absurd rfl (harr _ _))
      have ho : off < xs.size := by
        rw [h1] at hlen
        simp at hlen
        omega
      have hia : isAggK P t = false := by
        unfold isAggK
        split
        · rename_i fs hfs; exact absurd hfs (hns fs)
        · rfl
      have hv : ((xs.toList.drop off).take 1).headD undef = xs[off] := by
        rw [List.drop_eq_getElem_cons (by simpa using ho)]
        simp
      simp [part, hagg, ho, valK, hia, h1]
      rw [← List.headD_eq_head?_getD, hv]
    split at hk
    · rename_i hu; simp at hk; subst hk
      exact plain (by rw [hu]; simp) ⟨_, hu, by simp⟩ rfl
    · rename_i k hu; simp at hk; subst hk
      exact plain (by rw [hu]; simp) ⟨_, hu, by simp⟩ rfl
    · rename_i hu; simp at hk; subst hk
      exact plain (by rw [hu]; simp) ⟨_, hu, by simp⟩ rfl
    · rename_i fs hu
      split at hk
      · simp only [Option.bind_eq_some_iff] at hk
        obtain ⟨ks', hks', hk⟩ := hk
        split at hk
        · rename_i hts
          simp at hk; subst hk
          have hia : isAggK P t = true := by simp [isAggK, hu]
          have hagg : (isAgg t).run P w = .ok true w := by
            unfold isAgg
            rw [Sem.run_bind, run_underlying hu, Result.andThen_ok]
            rfl
          have hex : xs.extract off (off + ks'.length) = ((xs.toList.drop off).take ks'.length).toArray := by
            apply Array.ext'
            simp [List.take_drop, Nat.add_comm]
          simp [part, hagg, run_sizeOf_of hts, valK, hia, hex]
        · cases hk
      · cases hk
    · cases hk

theorem run_eqF {P : Program} (d : Nat) (n : Nat) (hrec : ∀ (t : TypeId) (ks : List Kd), tkinds P n t = some ks → ∀ (us vs : List Value), matchK ks us = true → matchK ks vs = true → ∀ w, (Op.equalIn d t (valK P t us) (valK P t vs)).run P w = .ok (allEq us vs) w) (xs ys : Array Value) (w : World) :
    ∀ (fs : List Field) (off : Nat) (ks : List Kd), catK P (tkinds P n) fs off = some ks → matchK ks (xs.toList.drop off) = true → matchK ks (ys.toList.drop off) = true → (Op.eqFields d xs ys fs).run P w = .ok (allEq (xs.toList.drop off) (ys.toList.drop off)) w
  | [], off, ks, hc, hx, hy => by
    simp [catK] at hc
    subst hc
    have h1 := matchK_len _ _ hx
    have h2 := matchK_len _ _ hy
    have e1 : xs.toList.drop off = [] := List.eq_nil_of_length_eq_zero (by simpa using h1)
    have e2 : ys.toList.drop off = [] := List.eq_nil_of_length_eq_zero (by simpa using h2)
    rw [e1, e2]
    simp [Op.eqFields, allEq]
  | f :: fs, off, ks, hc, hx, hy => by
    simp only [catK] at hc
    split at hc
    · rename_i hn
      obtain ⟨hn1, rfl⟩ := hn
      simp only [Option.bind_eq_some_iff, Option.map_eq_some_iff] at hc
      obtain ⟨k1, hk1, k2, hk2, rfl⟩ := hc
      obtain ⟨hx1, hx2⟩ := matchK_append _ _ _ hx
      obtain ⟨hy1, hy2⟩ := matchK_append _ _ _ hy
      have p1 := part_valK hk1 xs f.offset hx1 w
      have p2 := part_valK hk1 ys f.offset hy1 w
      have p3 := hrec f.type k1 hk1 _ _ hx1 hy1 w
      rw [List.drop_drop] at hx2 hy2
      have ih := run_eqF d n hrec xs ys w fs (f.offset + k1.length) k2 hk2 hx2 hy2
      simp only [Op.eqFields, hn1, ne_eq, not_false_eq_true, if_true, Sem.run_bind, p1, p2, p3, Result.andThen_ok]
      have hsplit : allEq (xs.toList.drop f.offset) (ys.toList.drop f.offset) = (allEq ((xs.toList.drop f.offset).take k1.length) ((ys.toList.drop f.offset).take k1.length) && allEq (xs.toList.drop (f.offset + k1.length)) (ys.toList.drop (f.offset + k1.length))) := by
        conv => lhs; rw [← List.take_append_drop k1.length (xs.toList.drop f.offset), ← List.take_append_drop k1.length (ys.toList.drop f.offset)]
        rw [allEq_append _ _ _ _ (by rw [matchK_len _ _ hx1, matchK_len _ _ hy1]), List.drop_drop, List.drop_drop]
      rw [hsplit]
      cases allEq ((xs.toList.drop f.offset).take k1.length) ((ys.toList.drop f.offset).take k1.length)
      · simp
      · simpa using ih
    · cases hc
theorem eq_kinds {P : Program} : ∀ (n : Nat) (d : Nat), n ≤ d → ∀ (t : TypeId) (ks : List Kd), tkinds P n t = some ks → ∀ (us vs : List Value), matchK ks us = true → matchK ks vs = true → ∀ w, (Op.equalIn d t (valK P t us) (valK P t vs)).run P w = .ok (allEq us vs) w
  | 0, d, _, t, ks, hk, us, vs, hu, hv, w => by simp [tkinds] at hk
  | n + 1, 0, hd, t, ks, hk, us, vs, hu, hv, w => by omega
  | n + 1, d + 1, hd, t, ks, hk, us, vs, hu, hv, w => by
    have hia : ∀ desc, P.underlying t = some desc → (∀ fs, desc ≠ .struct fs) → isAggK P t = false := by
      intro desc h1 h2
      unfold isAggK
      rw [h1]
      split
      · rename_i fs hfs; simp at hfs; exact absurd hfs (h2 fs)
      · rfl
    have one : ∀ {k : Kd} {l : List Value}, matchK [k] l = true → ∃ v, l = [v] ∧ k.is v = true := by
      intro k l h
      cases l with
      | nil => simp [matchK] at h
      | cons v l =>
        cases l with
        | nil => simp [matchK] at h; exact ⟨v, rfl, h⟩
        | cons => simp [matchK] at h
    unfold tkinds at hk
    split at hk
    · rename_i hund
      simp at hk; subst hk
      obtain ⟨u, rfl, h1⟩ := one hu
      obtain ⟨v, rfl, h2⟩ := one hv
      cases u <;> simp [Kd.is] at h1
      cases v <;> simp [Kd.is] at h2
      simp [valK, hia _ hund (by simp), run_equalIn_bool' (P := P) w d t _ _ hund, allEq, vEq, BEq.beq]
    · rename_i k hund
      simp at hk; subst hk
      obtain ⟨u, rfl, h1⟩ := one hu
      obtain ⟨v, rfl, h2⟩ := one hv
      cases u <;> simp [Kd.is] at h1
      cases v <;> simp [Kd.is] at h2
      subst h1 h2
      simp [valK, hia _ hund (by simp), run_equalIn_int (P := P) w d t _ _ _ _ hund, allEq, vEq, BEq.beq]
    · rename_i hund
      simp at hk; subst hk
      obtain ⟨u, rfl, h1⟩ := one hu
      obtain ⟨v, rfl, h2⟩ := one hv
      cases u <;> simp [Kd.is] at h1
      cases v <;> simp [Kd.is] at h2
      rename_i a b
      have hab : (a.toList == b.toList) = decide (a = b) := by
        rw [ByteArray.toList_eq, ByteArray.toList_eq]
        obtain ⟨⟨a⟩⟩ := a
        obtain ⟨⟨b⟩⟩ := b
        by_cases h : a = b
        · simp [h]
        · simp [h]
      simp [valK, hia _ hund (by simp), run_equalIn_string (P := P) w d t _ _ hund, allEq, vEq, hab]
    · rename_i fs hund
      split at hk
      · rename_i hst
        simp only [Option.bind_eq_some_iff] at hk
        obtain ⟨ks', hks', hk⟩ := hk
        split at hk
        · simp at hk; subst hk
          have hag : isAggK P t = true := by simp [isAggK, hund]
          have hfo : P.underlying t = some (.struct (P.fieldsOf t)) := by simp [Program.fieldsOf, hund]
          have hfs : P.fieldsOf t = fs := by simp [Program.fieldsOf, hund]
          simp only [valK, hag, if_true]
          rw [run_equalIn_struct w d t _ _ hfo hst, hfs]
          have := run_eqF d n (fun t ks h us vs hu hv w => eq_kinds n d (by omega) t ks h us vs hu hv w) us.toArray vs.toArray w fs.toList 0 ks' hks' (by simpa using hu) (by simpa using hv)
          simpa using this
        · cases hk
      · cases hk
    · cases hk

def cellsV : List C → Option (List Value)
  | [] => some []
  | .v x :: cs => (cellsV cs).map (x :: ·)
  | _ :: _ => none
theorem cellsV_eq : ∀ cs : List C, cs.mapM C.cellV = cellsV cs
  | [] => rfl
  | c :: cs => by
    rw [List.mapM_cons, cellsV_eq cs]
    cases c <;> simp [C.cellV, cellsV]
    cases cellsV cs <;> rfl
theorem agg_read {M : Mem} {v : Value} {cs : List C} (h : Rv M v (.agg cs)) {us : List Value} (hu : cellsV cs = some us) : v = .agg us.toArray :=
  flat_read h (by simp [C.flatV, cellsV_eq, hu])

/-- Two structs of plain cells. -/
def aggEq (P : Program) (op : BinOp) (t : TypeId) (us vs : List Value) : Option C :=
  (tkinds P 9 t).bind fun ks => if matchK ks us = true ∧ matchK ks vs = true ∧ P.eqGuardType P.depth t = false ∧ isAggK P t = true then
    match op with
    | .eql => some (.v (.bool (allEq us vs)))
    | .neq => some (.v (.bool (!allEq us vs)))
    | _ => none
  else none
theorem does_aggEq {P : Program} {M : Mem} {a : Act} {o : Oper} {op : BinOp} {t t2 : TypeId} {x y : Operand} {us vs : List Value} {c : C} (ho : o.op = .binOp op t x y t2) (hx : a.eval x = .agg us.toArray) (hy : a.eval y = .agg vs.toArray)
    (h : aggEq P op t us vs = some c) : Does P M a o c := by
  unfold aggEq at h
  simp only [Option.bind_eq_some_iff] at h
  obtain ⟨ks, hks, h⟩ := h
  split at h
  · rename_i hc
    obtain ⟨hu, hv, hg, hag⟩ := hc
    have he := eq_kinds 9 10000 (by omega) t ks hks us vs hu hv M.w
    simp only [valK, hag, if_true] at he
    have hgd : ∀ op : BinOp, (eqGuard op t x y (.agg us.toArray) (.agg vs.toArray)).run P M.w = .ok () M.w := fun op => run_eqGuard_agg M.w op t x y _ _ hg
    split at h
    · simp at h; subst h
      refine does_val (u := .bool (allEq us vs)) ?_ ⟨rfl, rfl⟩
      simp only [execOp, ho, hx, hy, Sem.run_bind, hgd, Result.andThen_ok, run_eql_struct, he, Sem.run_pure]
    · simp at h; subst h
      refine does_val (u := .bool (!allEq us vs)) ?_ ⟨rfl, rfl⟩
      simp only [execOp, ho, hx, hy, Sem.run_bind, hgd, Result.andThen_ok, run_neq_struct, he, Sem.run_pure]
    · cases h
  · cases h

/-! ## An operation that leaves memory as it was, told of readings -/

def isNilV : Value → Bool
  | .slice none _ _ => true
  | _ => false
def capOK : C → Bool
  | .v _ | .sl _ _ | .ip _ | .ptr _ _ _ _ | .own _ _ _ => true
  | _ => false
def nilcmpC (P : Program) (op : BinOp) (t : TypeId) (nl : Bool) : Option C :=
  if tlenOK P t = true then
    match op with
    | .eql => some (.v (.bool nl))
    | .neq => some (.v (.bool !nl))
    | _ => none
  else none
def binC (P : Program) (op : BinOp) (t : TypeId) (x y : Operand) : C → C → Option C
  | .v u, .v v => binV P op t x y u v
  | .sl nl _, .sl true [] => nilcmpC P op t nl
  | .sl true [], .sl nl _ => nilcmpC P op t nl
  | .agg us, .agg vs => (cellsV us).bind fun u => (cellsV vs).bind fun v => aggEq P op t u v
  | _, _ => none
def lenC (P : Program) (H : List Blk) (t : TypeId) : C → Option C
  | .sl _ rows => if tlenOK P t = true then some (.v (goInt rows.length)) else none
  | .own n g len => if tlenOK P t = true ∧ liveB H (.own n g len) = true then some (.v (goInt len)) else none
  | _ => none
def idxA (P : Program) (t : TypeId) (n : Int) (cs : List C) : Option C :=
  (tarr P t).bind fun x => if 0 ≤ n ∧ n < x.1 then partAtC P x.2.1 cs (n.toNat * x.2.2) else none

def unV (P : Program) (op : UnOp) (v : Value) : Option C := (pureRun P (Op.unary op v)).bind ofV
def cvV (P : Program) (s d : TypeId) (v : Value) : Option C := (pureRun P (convert s d v)).bind ofV
def ixV (P : Program) (t : TypeId) (v u : Value) : Option C := (pureRun P (Instr.index t v u)).bind ofV
def lnV (P : Program) (t : TypeId) (v : Value) : Option C := (pureRun P (Builtin.len_ #[t] 0 #[v])).bind ofV
def optV : Option C → Option (Option Value)
  | none => some none
  | some (.v v) => some (some v)
  | _ => none
def slV (P : Program) (t : TypeId) (v : Value) (lo hi : Option Value) : Option C := (pureRun P (Instr.sliceAt t v lo hi none)).bind ofV
def evCall (P : Program) (kp : FuncId → List C → Option C) (H : List Blk) (ρ : Operand → C) (c : Call) : Option C :=
  (calleeC ρ c).bind fun gc => (gc.2.mapM (viewA H)).bind fun cs => kp gc.1 cs
def evCalm (P : Program) (kp : FuncId → List C → Option C) (H : List Blk) (ρ : Operand → C) (o : Oper) : Option C :=
  match o.op with
  | .move x | .assign x => some (ρ x)
  | .pick c x y => match ρ c with
    | .v (.bool b) => some (if b = true then ρ x else ρ y)
    | _ => none
  | .nilCheck x => nilC H (ρ x)
  | .box _ x => boxC H (ρ x)
  | .load ty x => match ρ x with
    | .ip cs => evLoad P ty cs
    | .ptr n g i off => (ptrCells H n g i off).bind (evLoad P ty)
    | _ => none
  | .fieldAddr s x f => (tfield P s f).bind fun e => if e.2.2 ≠ 0 then fieldC H e.1 (ρ x) else none
  | .field ty x f => match ρ x with
    | .agg cs => (tfield P ty f).bind fun e => partAtC P e.2.1 cs e.1
    | _ => none
  | .indexAddr ty x y => match ρ y with
    | .v (.int _ n) => idxC P H ty n (normC H (ρ x))
    | _ => none
  | .index ty x y => match ρ x with
    | .agg cs => match ρ y with
      | .v (.int _ n) => idxA P ty n cs
      | _ => none
    | .v v => match ρ y with
      | .v u => ixV P ty v u
      | _ => none
    | _ => none
  | .unOp op _ x => match ρ x with
    | .v v => unV P op v
    | _ => none
  | .convert s d x => match ρ x with
    | .v v => cvV P s d v
    | _ => none
  | .build ty ps => buildC P H ty (ps.toList.map fun p => (p.1, ρ p.2))
  | .buildSlice ty len ps => bsC P H ty len (ps.toList.map fun p => (p.1, ρ p.2))
  | .slice ty x lo hi none => match normC H (ρ x) with
    | .sl nl rows => sliceC P ty nl rows (lo.map ρ) (hi.map ρ)
    | .v v => (optV (lo.map ρ)).bind fun l => (optV (hi.map ρ)).bind fun h => slV P ty v l h
    | _ => none
  | .extract x i => match ρ x with
    | .tup cs => cs[i]?
    | _ => none
  | .makeFunc (.func f) ⟨[]⟩ captured =>
    if captured.size = 0 then some (.v (.func (.func f) #[] #[]))
    else if captured.toList.all (fun x => capOK (ρ x)) = true then some (.fn f (captured.toList.map ρ)) else none
  | .call ⟨.builtin .len, ⟨[x]⟩, ⟨[ty]⟩⟩ => match ρ x with
    | .v v => lnV P ty v
    | c => lenC P H ty c
  | .call ⟨.builtin _, _, _⟩ => flatRun P ρ o
  | .call c => evCall P kp H ρ c
  | .binOp op ty x y _ => binC P op ty x y (ρ x) (ρ y)
  | _ => flatRun P ρ o

theorem rp_of {M : Mem} {v : Value} {c : C} (h : Rv M v c) (hc : capOK c = true) : Rp M v c := by
  cases c <;> first | exact h | cases hc
theorem tlen_slice {P : Program} {t : TypeId} (h : tlenOK P t = true) : ∃ e, P.underlying t = some (.slice e) := by
  unfold tlenOK at h
  split at h
  · rename_i e he; exact ⟨e, he⟩
  · cases h
theorem nil_val {M : Mem} {v u : Value} (h : Rv M v (.v u)) (hn : isNilV u = true) : ∃ n c, v = .slice none n c := by
  have : v = u := h.1
  subst this
  unfold isNilV at hn
  split at hn
  · exact ⟨_, _, rfl⟩
  · cases hn
theorem sl_nil_val {M : Mem} {v : Value} (h : Rv M v (.sl true [])) : v = .slice none 0 0 := by
  have h' : Rd0 M.S M.w v (.sl true []) := h
  cases h' with
  | nil => rfl
theorem parts_read {M : Mem} {a : Act} {ρ : Operand → C} (hρ : ∀ x, Rv M (a.eval x) (ρ x)) (ps : Array (Nat × Operand)) (j i : Nat) (c : C) (hj : (ps.toList.map fun p => (p.1, ρ p.2))[j]? = some (i, c)) :
    ∃ x, ps[j]? = some (i, x) ∧ Rv M (a.eval x) c := by
  rw [List.getElem?_map] at hj
  cases hp : ps.toList[j]? with
  | none => rw [hp] at hj; simp at hj
  | some p =>
    rw [hp] at hj
    obtain ⟨i', x⟩ := p
    simp at hj
    obtain ⟨rfl, rfl⟩ := hj
    exact ⟨x, by simpa using hp, hρ x⟩

theorem calm_sound {P : Program} {G : GT} {kp : FuncId → List C → Option C} (hkp : ∀ f, SpecP P G f (kp f)) {M : Mem} (hM : Rep M) (hG : GOK G M) {a : Act} {ρ : Operand → C} (hρ : ∀ x, Rv M (a.eval x) (ρ x))
    {o : Oper} {c : C} (h : evCalm P kp M.H ρ o = some c) : Does P M a o c := by
  unfold evCalm at h
  split at h
  · rename_i x hop
    simp at h; subst h
    exact does_move (.inl hop) (hρ x)
  · rename_i x hop
    simp at h; subst h
    exact does_move (.inr hop) (hρ x)
  · rename_i cc x y hop
    split at h
    · rename_i b hb
      simp at h; subst h
      exact does_pick hop (hb ▸ hρ cc) (hρ x) (hρ y)
    · cases h
  · rename_i x hop
    exact does_nil hop (hρ x) h
  · rename_i t x hop
    exact does_box hM hop (hρ x) h
  · rename_i t x hop
    split at h
    · rename_i cs hx
      exact does_load hM hop (hx ▸ hρ x) (.inl rfl) h
    · rename_i n g i off hx
      cases hp : ptrCells M.H n g i off with
      | none => rw [hp] at h; simp at h
      | some cs => rw [hp] at h; exact does_load hM hop (hx ▸ hρ x) (.inr ⟨n, g, i, off, rfl, hp⟩) h
    · cases h
  · rename_i s x f hop
    cases hf : tfield P s f with
    | none => rw [hf] at h; simp at h
    | some e =>
      obtain ⟨off, ft, sz⟩ := e
      rw [hf] at h
      simp only [Option.bind_some] at h
      split at h
      · rename_i hsz
        exact does_fieldAddr hop (hρ x) hf hsz h
      · cases h
  · rename_i t x f hop
    split at h
    · rename_i cs hx
      cases hf : tfield P t f with
      | none => rw [hf] at h; simp at h
      | some e =>
        obtain ⟨off, ft, sz⟩ := e
        rw [hf] at h
        exact does_field hop (hx ▸ hρ x) hf h
    · cases h
  · rename_i t x y hop
    split at h
    · rename_i k n hy
      exact does_indexAddr hop (norm_read hM (hρ x)) (hy ▸ hρ y) h
    · cases h
  · rename_i t x y hop
    split at h
    · rename_i cs hx
      split at h
      · rename_i k n hy
        unfold idxA at h
        cases hta : tarr P t with
        | none => rw [hta] at h; simp at h
        | some e =>
          obtain ⟨len, e, sz⟩ := e
          rw [hta] at h
          simp only [Option.bind_some] at h
          split at h
          · rename_i hc
            obtain ⟨vs, hv, h1, h2⟩ := (hx ▸ hρ x : Rv M (a.eval x) (.agg cs))
            have hyv : a.eval y = .int k n := (hy ▸ hρ y : Rv M (a.eval y) (.v (.int k n))).1
            obtain ⟨u, hr, hu⟩ := part_read (P := P) ⟨h1, h2⟩ h
            unfold tarr at hta
            split at hta
            · rename_i l0 e0 hd
              cases hts : tsize P e0 with
              | none => rw [hts] at hta; simp at hta
              | some m =>
                rw [hts] at hta
                simp at hta
                obtain ⟨rfl, rfl, rfl⟩ := hta
                refine does_val (u := u) ?_ hu
                simp [execOp, hop, hv, hyv, Instr.index, asIntOf, run_underlying hd, hc.1, hc.2, run_sizeOf_of hts, hr]
            · cases hta
          · cases h
      · cases h
    · rename_i v hx
      split at h
      · rename_i u hy
        have hxv : a.eval x = v := (hx ▸ hρ x : Rv M (a.eval x) (.v v)).1
        have hyv : a.eval y = u := (hy ▸ hρ y : Rv M (a.eval y) (.v u)).1
        unfold ixV at h
        cases hp : pureRun P (Instr.index t v u) with
        | none => rw [hp] at h; simp at h
        | some r =>
          rw [hp] at h
          exact does_val (u := r) (by simp [execOp, hop, hxv, hyv, pureRun_run _ hp M.w]) (ofV_read h)
      · cases h
    · cases h
  · rename_i op t x hop
    split at h
    · rename_i v hx
      have hxv : a.eval x = v := (hx ▸ hρ x : Rv M (a.eval x) (.v v)).1
      unfold unV at h
      cases hp : pureRun P (Op.unary op v) with
      | none => rw [hp] at h; simp at h
      | some r =>
        rw [hp] at h
        exact does_val (u := r) (by simp [execOp, hop, hxv, pureRun_run _ hp M.w]) (ofV_read h)
    · cases h
  · rename_i s d x hop
    split at h
    · rename_i v hx
      have hxv : a.eval x = v := (hx ▸ hρ x : Rv M (a.eval x) (.v v)).1
      unfold cvV at h
      cases hp : pureRun P (convert s d v) with
      | none => rw [hp] at h; simp at h
      | some r =>
        rw [hp] at h
        exact does_val (u := r) (by simp [execOp, hop, hxv, pureRun_run _ hp M.w]) (ofV_read h)
    · cases h
  · rename_i t ps hop
    exact does_build hop (by simp) (parts_read hρ ps) h
  · rename_i t len ps hop
    exact does_buildSlice hM hop (by simp) (parts_read hρ ps) h
  · rename_i t x lo hi hop
    split at h
    · rename_i k rows hx
      refine does_slice hop (hx ▸ norm_read hM (hρ x)) (fun c hc => ?_) (fun hc => ?_) (fun c hc => ?_) (fun hc => ?_) h
      · cases lo with
        | none => simp at hc
        | some y => simp at hc; subst hc; exact ⟨y, rfl, hρ y⟩
      · cases lo <;> simp at hc ⊢
      · cases hi with
        | none => simp at hc
        | some y => simp at hc; subst hc; exact ⟨y, rfl, hρ y⟩
      · cases hi <;> simp at hc ⊢
    · rename_i v hx
      have hxv : a.eval x = v := (hx ▸ norm_read hM (hρ x) : Rv M (a.eval x) (.v v)).1
      simp only [Option.bind_eq_some_iff] at h
      obtain ⟨l, hl, h', hh, h⟩ := h
      have opt : ∀ (y : Option Operand) (l : Option Value), optV (y.map ρ) = some l → y.map a.eval = l := by
        intro y l hy
        cases y with
        | none => simp [optV] at hy; subst hy; rfl
        | some z =>
          simp only [Option.map_some] at hy ⊢
          unfold optV at hy
          split at hy
          · rename_i he; simp at he
          · rename_i u he
            simp at he hy
            subst hy
            rw [(he ▸ hρ z : Rv M (a.eval z) (.v u)).1]
          · cases hy
      unfold slV at h
      cases hp : pureRun P (Instr.sliceAt t v l h' none) with
      | none => rw [hp] at h; simp at h
      | some r =>
        rw [hp] at h
        refine does_val (u := r) ?_ (ofV_read h)
        simp only [execOp, hop, hxv, opt lo l hl, opt hi h' hh, Option.map_none]
        rw [Sem.run_bind, pureRun_run _ hp M.w]
        simp
    · cases h
  · rename_i x i hop
    split at h
    · rename_i cs hx
      exact does_extract hop (hx ▸ hρ x) h
    · cases h
  · rename_i f captured hop
    split at h
    · rename_i hs
      simp at h; subst h
      refine does_val (u := .func (.func f) #[] #[]) ?_ ⟨rfl, rfl⟩
      have hcap : captured = #[] := Array.eq_empty_of_size_eq_zero hs
      simp [execOp, hop, Instr.makeFunc, hcap]
    · split at h
      · rename_i hall
        simp at h; subst h
        refine does_func hop (by simp) (fun i c x hi hx => ?_)
        rw [List.getElem?_map] at hi
        have hx' : captured.toList[i]? = some x := by simpa using hx
        rw [hx'] at hi
        simp at hi; subst hi
        exact rp_of (hρ x) (List.all_eq_true.1 hall x (List.mem_of_getElem? hx'))
      · cases h
  · rename_i x ty hop
    split at h
    · rename_i v hx
      have hxv : a.eval x = v := (hx ▸ hρ x : Rv M (a.eval x) (.v v)).1
      unfold lnV at h
      cases hp : pureRun P (Builtin.len_ #[ty] 0 #[v]) with
      | none => rw [hp] at h; simp at h
      | some r =>
        rw [hp] at h
        refine does_val (u := r) ?_ (ofV_read h)
        have h2 : Builtin.len_ #[ty] o.type #[v] = Builtin.len_ #[ty] 0 #[v] := rfl
        simp [execOp, hop, resolve, invoke, builtin, hxv, h2, pureRun_run _ hp M.w]
    · rename_i c0 hx
      unfold lenC at h
      split at h
      · rename_i k rows hx'
        split at h
        · rename_i hl
          simp at h; subst h
          exact does_len (ty := ty) hop hl (sl_val (hx' ▸ hρ x))
        · cases h
      · rename_i n g len hx'
        split at h
        · rename_i hl
          simp at h; subst h
          exact does_len (ty := ty) hop hl.1 (own_val hM (hx' ▸ hρ x) hl.2)
        · cases h
      · cases h
  · exact does_flat hρ h
  · rename_i c0 h1 h2 hop
    unfold evCall at h
    cases hg : calleeC ρ c0 with
    | none => rw [hg] at h; simp at h
    | some gc =>
      obtain ⟨g, cs⟩ := gc
      rw [hg] at h
      simp only [Option.bind_some] at h
      cases hv : cs.mapM (viewA M.H) with
      | none => rw [hv] at h; simp at h
      | some cs' =>
        rw [hv] at h
        exact does_call hkp hM hG hρ hop hg hv h
  · rename_i op ty x y ty2 hop
    unfold binC at h
    split at h
    · rename_i u v hx hy
      exact does_bin hop (hx ▸ hρ x) (hy ▸ hρ y) rfl rfl h
    · rename_i nl rows hx hy
      unfold nilcmpC at h
      split at h
      · rename_i htl
        obtain ⟨e, he⟩ := tlen_slice htl
        have hv := sl_nil_val (hy ▸ hρ y)
        split at h
        · simp at h; subst h; exact does_nilcmp hop he (.inl ⟨hx ▸ hρ x, hv⟩) (.inl ⟨rfl, rfl⟩)
        · simp at h; subst h; exact does_nilcmp hop he (.inl ⟨hx ▸ hρ x, hv⟩) (.inr ⟨rfl, rfl⟩)
        · cases h
      · cases h
    · rename_i nl rows hno hx hy
      unfold nilcmpC at h
      split at h
      · rename_i htl
        obtain ⟨e, he⟩ := tlen_slice htl
        have hv := sl_nil_val (hx ▸ hρ x)
        split at h
        · simp at h; subst h; exact does_nilcmp hop he (.inr ⟨hy ▸ hρ y, hv⟩) (.inl ⟨rfl, rfl⟩)
        · simp at h; subst h; exact does_nilcmp hop he (.inr ⟨hy ▸ hρ y, hv⟩) (.inr ⟨rfl, rfl⟩)
        · cases h
      · cases h
    · rename_i us vs hx hy
      cases hu : cellsV us with
      | none => rw [hu] at h; simp at h
      | some u =>
        rw [hu] at h
        simp only [Option.bind_some] at h
        cases hv : cellsV vs with
        | none => rw [hv] at h; simp at h
        | some v =>
          rw [hv] at h
          exact does_aggEq hop (agg_read (hx ▸ hρ x) hu) (agg_read (hy ▸ hρ y) hv) h
    · cases h
  · exact does_flat hρ h

/-! ## Operations that write -/

def Mem.to (M : Mem) (H' : List Blk) (β' : Nat → Nat) (w' : World) : Mem := { M with H := H', β := β', w := w' }
structure Moved (M M' : Mem) (H' : List Blk) (w' : World) : Prop where
  H : M'.H = H'
  w : M'.w = w'
  rep : Rep M'
  tr : Trans M M'
def DoesE (P : Program) (M : Mem) (a : Act) (o : Oper) (c : C) (H' : List Blk) : Prop :=
  (∃ u w' M', ((execOp a.eval o).run P M.w = .ok (.value u) w' ∨ ((execOp a.eval o).run P M.w = .ok .skip w' ∧ u = undef)) ∧ Moved M M' H' w' ∧ Rv M' u c) ∨
  (∃ g vs, (execOp a.eval o).run P M.w = .ok (.enter g vs) M.w ∧ Calls P g vs M.w fun e w' => ∃ v M', e = .returned v ∧ Moved M M' H' w' ∧ Rv M' v c)
theorem DoesE.wp {P : Program} {M : Mem} {a : Act} {o : Oper} {c : C} {H' : List Blk} (h : DoesE P M a o c H') {K : Act → World → Prop} {Q : Exit → Act → World → Prop}
    (hK : ∀ v w' M', Moved M M' H' w' → Rv M' v c → K (a.put o.dst v) w') : o.wp P a M.w K Q := by
  unfold Oper.wp
  rcases h with ⟨u, w', M', hr | ⟨hr, rfl⟩, hm, hv⟩ | ⟨g, vs, hr, hc⟩
  · rw [hr]; exact hK u w' M' hm hv
  · rw [hr]; exact hK undef w' M' hm hv
  · rw [hr]
    refine hc.mono ?_
    rintro e w' ⟨v, M', rfl, hm, hv⟩
    exact hK v w' M' hm hv
theorem Does.eff {P : Program} {M : Mem} (hM : Rep M) {a : Act} {o : Oper} {c : C} (h : Does P M a o c) : DoesE P M a o c M.H := by
  rcases h with ⟨u, w', hr, hb, hv⟩ | ⟨g, vs, hr, hc⟩
  · exact .inl ⟨u, w', M.later w', .inl hr, ⟨rfl, rfl, (grew hM hb).1, (grew hM hb).2⟩, hv⟩
  · refine .inr ⟨g, vs, hr, hc.mono ?_⟩
    rintro e w' ⟨v, rfl, hb, hv⟩
    exact ⟨v, M.later w', rfl, ⟨rfl, rfl, (grew hM hb).1, (grew hM hb).2⟩, hv⟩

section
variable {P : Program} {M : Mem} {a : Act} {o : Oper}

/-! ### a variable -/

def newVarB (t : TypeId) (cs : List C) : Blk := { ty := t, k := cs.length, rows := [cs], row := false, nl := false, gen := 0 }
theorem newVar_rep (hM : Rep M) (t : TypeId) {vs : Array Value} {cs : List C} (hR : RL M vs cs) :
    Moved M (M.newed (newVarB t cs) (M.w.alloc (.cells vs t))) (M.H ++ [newVarB t cs]) (M.w.alloc (.cells vs t)) ∧
    Rv (M.newed (newVarB t cs) (M.w.alloc (.cells vs t))) (.pointer (some ⟨M.w.heap.size, 0, none⟩)) (.ptr M.H.length 0 0 0) := by
  have hb := below_alloc M.w (.cells vs t)
  have h := newed_rep hM (newVarB t cs) vs 1 hb (heap_alloc_new M.w _) (by simp [newVarB, hR.1]) (by simp [newVarB]) (by unfold maxLen; omega) (by simp [newVarB]) rfl (fun i j r c hi hj => by
    rw [if_neg (by simp [newVarB])]
    cases i with
    | zero =>
      simp [newVarB] at hi
      subst hi
      simpa using hR.2 j c hj
    | succ i => simp [newVarB] at hi)
  refine ⟨⟨rfl, rfl, h.1, h.2⟩, newVarB t cs, by simp [Mem.newed], by simp [newVarB], fun _ => ⟨rfl, by simp [Mem.newed, newVarB]⟩⟩
theorem doesE_alloc (hM : Rep M) {t : TypeId} {z : List Value} (ho : o.op = .alloc t) (hz : tzero P t = some z) : DoesE P M a o (.ptr M.H.length 0 0 0) (M.H ++ [newVarB t (z.map .v)]) := by
  obtain ⟨zv, hzr, hzc, hone⟩ := tzero_run hz
  have h := newVar_rep hM t (zero_RL (M := M) hone)
  refine .inl ⟨_, _, _, .inl ?_, h.1, h.2⟩
  simp [execOp, ho, Instr.alloc, hzr M.w, newVar, newRow, hzc]
theorem doesE_box (hM : Rep M) {t : TypeId} {x : Operand} {cx : C} {cs : List C} (ho : o.op = .box t x) (hx : Rv M (a.eval x) cx) (hp : partC M.H cx = some cs) : DoesE P M a o (.ptr M.H.length 0 0 0) (M.H ++ [newVarB t cs]) := by
  have h := newVar_rep hM t (part_cells hx hp)
  refine .inl ⟨_, _, _, .inl ?_, h.1, h.2⟩
  simp [execOp, ho, Instr.box, newVar, newRow]

/-! ### a store -/

def storeH (H : List Blk) (n g i off : Nat) (cs : List C) : Option (List Blk) :=
  (H[n]?).bind fun bl => if bl.gen = g ∧ bl.row = false then (bl.rows[i]?).bind fun r =>
    if off + cs.length ≤ r.length then some (H.set n { bl with rows := bl.rows.set i (overC off cs.zipIdx r) }) else none else none

theorem modify_set {α : Type} (l : List α) (i : Nat) (r : α) (f : α → α) (h : l[i]? = some r) : l.modify i f = l.set i (f r) := by
  apply List.ext_getElem?
  intro j
  rw [List.getElem?_modify, List.getElem?_set]
  by_cases e : i = j
  · subst e
    rw [if_pos rfl, h, if_pos (List.getElem?_eq_some_iff.1 h).1]
    simp
  · rw [if_neg e]
    simp [e]
theorem overC_len (off : Nat) : ∀ (xs : List (C × Nat)) (cells : List C), (overC off xs cells).length = cells.length
  | [], cells => rfl
  | (c, j) :: xs, cells => by simp [overC, overC_len off xs]

theorem store_cells {n i off : Nat} (cs : List C) : ∀ (vs : List Value) (m : Nat) (M : Mem), Rep M → ∀ {bl : Blk} {r : List C}, M.H[n]? = some bl → bl.row = false → bl.nl = false → bl.rows[i]? = some r → vs.length = cs.length → off + m + cs.length ≤ r.length →
    (∀ (j : Nat) (c : C), cs[j]? = some c → Rc M (vs.getD j undef) c ∧ (vs.getD j undef).oneCell' = true) →
    ∃ w' M', (storeCells ⟨M.β n, i * bl.k + off, none⟩ vs m).run P M.w = .ok () w' ∧ Moved M M' (M.H.set n { bl with rows := bl.rows.set i (overC off (cs.zipIdx m) r) }) w' := by
  induction cs with
  | nil =>
    intro vs m M hM bl r hn hrow hnl hi hl hlen hv
    have : vs = [] := List.eq_nil_of_length_eq_zero (by simpa using hl)
    subst this
    refine ⟨M.w, M, rfl, ⟨?_, rfl, hM, Trans.refl M⟩⟩
    have h1 : bl.rows.set i (overC off (([] : List C).zipIdx m) r) = bl.rows := by
      show bl.rows.set i r = bl.rows
      apply List.ext_getElem?
      intro j
      rw [List.getElem?_set]
      by_cases e : i = j
      · subst e; rw [if_pos rfl, if_pos (List.getElem?_eq_some_iff.1 hi).1, hi]
      · rw [if_neg e]
    rw [h1]
    apply List.ext_getElem?
    intro j
    rw [List.getElem?_set]
    by_cases e : n = j
    · subst e; rw [if_pos rfl, if_pos (List.getElem?_eq_some_iff.1 hn).1, hn]
    · rw [if_neg e]
  | cons c cs ih =>
    intro vs m M hM bl r hn hrow hnl hi hl hlen hv
    cases vs with
    | nil => simp at hl
    | cons v vs =>
      have h0 := hv 0 c (by simp)
      simp at h0
      simp only [List.length_cons] at hlen hl
      have hst := stored_rep hM hn hrow hnl hi (off := off + m) (by omega) h0.1
      obtain ⟨cur, cap, hk⟩ := hM.blk n bl hn hnl
      have hoff : i * bl.k + (off + m) < cur.size := by
        have hrk : r.length = bl.k := hk.kk r (List.mem_of_getElem? hi)
        have h2 : (i + 1) * bl.k ≤ cap * bl.k := Nat.mul_le_mul_right _ (by have := (List.getElem?_eq_some_iff.1 hi).1; have := hk.len; omega)
        rw [hk.size]
        rw [Nat.add_mul] at h2
        omega
      have hcell : M.w.cell? ⟨M.β n, i * bl.k + off + m, none⟩ = some cur[i * bl.k + off + m] := by
        rw [cell_of_row M.w (M.β n) _ cur bl.ty (0, 0) hk.heap]
        exact Array.getElem?_eq_getElem (by omega)
      have hfz : M.w.frozen? ⟨M.β n, i * bl.k + off + m, none⟩ = false := by simp [World.frozen?, hk.heap]
      have hrun : (store ((⟨M.β n, i * bl.k + off, none⟩ : Addr).add m) v).run P M.w = .ok () (M.w.setCell ⟨M.β n, i * bl.k + (off + m), none⟩ v) := by
        rw [add_lit, run_store P M.w _ v .plain h0.2, hcell]
        simp only [hfz]
        rw [if_neg (by simp), Nat.add_assoc]
      have hi1 : (bl.rows.modify i fun r => r.set (off + m) c)[i]? = some (r.set (off + m) c) := by
        rw [List.getElem?_modify, hi]; simp
      have hnlt : n < M.H.length := (List.getElem?_eq_some_iff.1 hn).1
      have hn1 : (M.stored n i (off + m) bl c (M.w.setCell ⟨M.β n, i * bl.k + (off + m), none⟩ v)).H[n]? = some { bl with rows := bl.rows.modify i fun r => r.set (off + m) c } := by
        show (M.H.set n _)[n]? = _
        rw [List.getElem?_set, if_pos rfl, if_pos hnlt]
      obtain ⟨w', M', hrun2, hm⟩ := ih vs (m + 1) _ hst.1 hn1 hrow hnl hi1 (by omega) (by simp; omega) (fun j c' hj => by
        have h1 := hv (j + 1) c' (by simpa using hj)
        simp at h1
        exact ⟨Rc.keep hst.2 (by simpa using h1.1), by simpa using h1.2⟩)
      refine ⟨w', M', ?_, ?_, hm.w, hm.rep, hst.2.trans hm.tr⟩
      · simp only [storeCells, Sem.run_bind, hrun, Result.andThen_ok]
        exact hrun2
      · rw [hm.H]
        show (M.H.set n _).set n _ = _
        rw [List.set_set]
        congr 2
        rw [modify_set _ _ _ _ hi, List.set_set]
        rfl

theorem doesE_store (hM : Rep M) {t : TypeId} {x y : Operand} {n g i off : Nat} {cy : C} {cs : List C} {H' : List Blk} (ho : o.op = .store t x y) (hx : Rv M (a.eval x) (.ptr n g i off)) (hy : Rv M (a.eval y) cy)
    (hp : partC M.H cy = some cs) (hsz : tsize P t = some cs.length) (hH : storeH M.H n g i off cs = some H') : DoesE P M a o .dead H' := by
  obtain ⟨bl, hb, hle, hg⟩ := hx
  unfold storeH at hH
  rw [hb] at hH
  simp only [Option.bind_some] at hH
  split at hH
  · rename_i hc
    obtain ⟨hnl, hv⟩ := hg hc.1
    cases hr : bl.rows[i]? with
    | none => rw [hr] at hH; simp at hH
    | some r =>
      rw [hr] at hH
      simp only [Option.bind_some] at hH
      split at hH
      · rename_i hlen
        simp at hH; subst hH
        have hR := part_cells hy hp
        have hone : ∀ (j : Nat) (c : C), cs[j]? = some c → ((a.eval y).cells.getD j undef).oneCell' = true := by
          intro j c hj
          exact (live_cells (hR.2 j c hj) (part_live hp j c hj)).1
        obtain ⟨w', M', hrun, hm⟩ := store_cells (P := P) (n := n) (i := i) (off := off) cs (a.eval y).cells.toList 0 M hM hb hc.2 hnl hr (by simpa using hR.1) (by omega) (fun j c hj => ⟨by simpa [Array.getD_eq_getD_getElem?] using hR.2 j c hj, by simpa [Array.getD_eq_getD_getElem?] using hone j c hj⟩)
        refine .inl ⟨undef, w', M', .inr ⟨?_, rfl⟩, hm, trivial⟩
        have hsz' : (a.eval y).cells.size = cs.length := hR.1
        simp [execOp, ho, hv, Instr.storeAt, Instr.sureAddr, storeVar, run_sizeOf_of hsz, hsz', hrun]
      · cases hH
  · cases hH
end

section
variable {P : Program} {M : Mem} {a : Act} {o : Oper}

/-! ### append -/

def ghostB (e : TypeId) (k : Nat) : Blk := { ty := e, k, rows := [], row := true, nl := true, gen := 0 }
theorem ghost_rep (hM : Rep M) (e : TypeId) (k : Nat) : Moved M (M.newed (ghostB e k) M.w) (M.H ++ [ghostB e k]) M.w ∧ Rp (M.newed (ghostB e k) M.w) (.slice none 0 0) (.own M.H.length 0 0) := by
  have t := newed_trans hM (ghostB e k) (Below.refl M.w.heap.size M.w)
  have hget : ∀ n bl, (M.newed (ghostB e k) M.w).H[n]? = some bl → (n = M.H.length ∧ bl = ghostB e k) ∨ (n < M.H.length ∧ M.H[n]? = some bl) := by
    intro n bl hn
    simp only [Mem.newed] at hn
    by_cases h : n < M.H.length
    · rw [List.getElem?_append_left h] at hn; exact .inr ⟨h, hn⟩
    · rw [List.getElem?_append_right (by omega)] at hn
      by_cases h2 : n = M.H.length
      · subst h2; simp at hn; exact .inl ⟨rfl, hn.symm⟩
      · rw [List.getElem?_eq_none (by simp; omega)] at hn; cases hn
  have hβ : ∀ n, n < M.H.length → (M.newed (ghostB e k) M.w).β n = M.β n := fun n hn => by simp [Mem.newed]; omega
  refine ⟨⟨rfl, rfl, ⟨hM.below, hM.hB, fun n bl hn hnl => ?_, fun n bl hn hnl => ?_, fun n m bn bm hn hm h1 h2 he => ?_⟩, t⟩, ghostB e k, by simp [Mem.newed], Nat.le_refl _, fun _ => ⟨rfl, by simp [ghostB]⟩⟩
  · rcases hget n bl hn with ⟨rfl, rfl⟩ | ⟨hl, hn'⟩
    · simp [ghostB] at hnl
    · obtain ⟨cur, cap, hk⟩ := hM.blk n bl hn' hnl
      refine ⟨cur, cap, by rw [hβ n hl]; exact hk.base, by rw [hβ n hl]; exact hk.heap, hk.size, hk.len, hk.cap, hk.kk, fun i j r c hi hj => ?_⟩
      have := hk.cells i j r c hi hj
      split
      · rename_i hr; rw [if_pos hr] at this; exact Rd0.keep t.S this
      · rename_i hr; rw [if_neg hr] at this; exact Rc.keep t this
  · rcases hget n bl hn with ⟨rfl, rfl⟩ | ⟨hl, hn'⟩
    · rfl
    · exact hM.nil n bl hn' hnl
  · rcases hget n bn hn with ⟨rfl, rfl⟩ | ⟨hl, hn'⟩
    · simp [ghostB] at h1
    · rcases hget m bm hm with ⟨rfl, rfl⟩ | ⟨hl', hm'⟩
      · simp [ghostB] at h2
      · rw [hβ n hl, hβ m hl'] at he
        exact hM.inj n m bn bm hn' hm' h1 h2 he

def Mem.bump (M : Mem) (n : Nat) (bl : Blk) : Mem := { M with H := M.H.set n { bl with gen := bl.gen + 1 } }
theorem bump_rep (hM : Rep M) {n : Nat} {bl : Blk} (hn : M.H[n]? = some bl) : Moved M (M.bump n bl) (M.H.set n { bl with gen := bl.gen + 1 }) M.w := by
  have hnlt : n < M.H.length := (List.getElem?_eq_some_iff.1 hn).1
  have hget : ∀ (m : Nat) (bl' : Blk), (M.bump n bl).H[m]? = some bl' → ∃ b0 : Blk, M.H[m]? = some b0 ∧ bl'.ty = b0.ty ∧ bl'.k = b0.k ∧ bl'.rows = b0.rows ∧ bl'.row = b0.row ∧ bl'.nl = b0.nl := by
    intro m bl' hm
    simp only [Mem.bump] at hm
    rw [List.getElem?_set] at hm
    by_cases e : n = m
    · subst e
      rw [if_pos rfl, if_pos hnlt] at hm
      cases hm
      exact ⟨bl, hn, rfl, rfl, rfl, rfl, rfl⟩
    · rw [if_neg e] at hm
      exact ⟨bl', hm, rfl, rfl, rfl, rfl, rfl⟩
  have hS : ∀ b o, M.S b o → (M.bump n bl).S b o := by
    intro b o h
    rcases h with h | ⟨h1, h2, h3⟩
    · exact .inl h
    · refine .inr ⟨h1, h2, fun m bl' hm hml hβ => ?_⟩
      obtain ⟨b0, hb0, _, ek, er, ew, en⟩ := hget m bl' hm
      have := h3 m b0 hb0 (by rw [← en]; exact hml) hβ
      rw [ew, er, ek]; exact this
  have t : Trans M (M.bump n bl) := by
    refine ⟨rfl, rfl, rfl, rfl, fun b o h => ⟨hS b o h, fun _ hu => hu⟩, fun b o h => ⟨h.imp (hS b o) id, fun _ hu => hu⟩, fun m bl' hm => ?_⟩
    by_cases e : m = n
    · subst e
      rw [hn] at hm; cases hm
      exact ⟨{ bl with gen := bl.gen + 1 }, by simp [Mem.bump, hnlt], Nat.le_succ _, fun h => by simp at h⟩
    · refine ⟨bl', ?_, Nat.le_refl _, fun _ => ⟨rfl, rfl, rfl, fun _ => rfl, rfl, fun _ cur hc => ⟨cur, hc, rfl⟩⟩⟩
      show (M.H.set n _)[m]? = _
      rw [List.getElem?_set, if_neg (Ne.symm e)]; exact hm
  refine ⟨rfl, rfl, ⟨hM.below, hM.hB, fun m bl' hm hml => ?_, fun m bl' hm hml => ?_, fun m m' bn bm hm hm' h1 h2 he => ?_⟩, t⟩
  · obtain ⟨b0, hb0, et, ek, er, ew, en⟩ := hget m bl' hm
    obtain ⟨cur, cap, hk⟩ := hM.blk m b0 hb0 (by rw [← en]; exact hml)
    refine ⟨cur, cap, hk.base, by rw [et]; exact hk.heap, by rw [ek]; exact hk.size, by rw [er]; exact hk.len, hk.cap, by rw [er, ek]; exact hk.kk, fun i j r c hi hj => ?_⟩
    rw [er] at hi
    have := hk.cells i j r c hi hj
    rw [ew, ek]
    split
    · rename_i hr; rw [if_pos hr] at this; exact Rd0.keep t.S this
    · rename_i hr; rw [if_neg hr] at this; exact Rc.keep t this
  · obtain ⟨b0, hb0, et, ek, er, ew, en⟩ := hget m bl' hm
    rw [er]; exact hM.nil m b0 hb0 (by rw [← en]; exact hml)
  · obtain ⟨b0, hb0, _, _, _, _, en⟩ := hget m bn hm
    obtain ⟨b1, hb1, _, _, _, _, en1⟩ := hget m' bm hm'
    exact hM.inj m m' b0 b1 hb0 hb1 (by rw [← en]; exact h1) (by rw [← en1]; exact h2) he

/-- Rows behind a row of one's own. -/
def appH (P : Program) (t : TypeId) (H : List Blk) (n g len : Nat) (news : List (List C)) : Option (C × List Blk) :=
  (H[n]?).bind fun bl => (tapp P t).bind fun e =>
    if bl.gen = g ∧ e = (bl.ty, bl.k) ∧ (∀ r ∈ news, r.length = bl.k) ∧ len + news.length ≤ 1073741824 then
      some (.own n (g + 1) (len + news.length), H.set n { bl with rows := bl.rows ++ news, nl := bl.nl && news.isEmpty, gen := bl.gen + 1 })
    else none
theorem append_none (hM : Rep M) {t ty : TypeId} {n g len : Nat} {v : Value} (ht : ∃ e k, tapp P t = some (e, k)) (hv : Rp M v (.own n g len)) (hl : liveB M.H (.own n g len) = true) : (Builtin.append_ #[t, t] ty #[v, .slice none 0 0]).run P M.w = .ok v M.w := by
  obtain ⟨e, k, ht⟩ := ht
  obtain ⟨hu, hk0, i, z, hi, hz, _⟩ := tapp_ok ht
  obtain ⟨bl, hb, hle, hg⟩ := id hv
  simp only [liveB, hb] at hl
  have hgen : bl.gen = g := by simpa using hl
  obtain ⟨hlr, h2⟩ := hg hgen
  split at h2
  · subst h2
    simp [Builtin.append_, run_underlying hu, sizeOf, typeInfo, hi, Builtin.lenOf, Builtin.firstCells]
  · obtain ⟨cap, cur, hh, hs, hlc, hcm, rfl⟩ := h2
    simp [Builtin.append_, run_underlying hu, sizeOf, typeInfo, hi, Builtin.lenOf, Builtin.firstCells, hlc, storeCells]

theorem append_sl (hM : Rep M) {t ty : TypeId} {n g len : Nat} {v x : Value} {snl : Bool} {news : List (List C)} {c : C} {H' : List Blk} (hv : Rp M v (.own n g len)) (hx : Rd0 M.S M.w x (.sl snl news)) (h : appH P t M.H n g len news = some (c, H')) :
    ∃ u w' M', (Builtin.append_ #[t, t] ty #[v, x]).run P M.w = .ok u w' ∧ Moved M M' H' w' ∧ Rv M' u c := by
  unfold appH at h
  obtain ⟨bl, hb, hle, hg⟩ := id hv
  rw [hb] at h
  simp only [Option.bind_some] at h
  cases hta : tapp P t with
  | none => rw [hta] at h; simp at h
  | some e =>
    rw [hta] at h
    simp only [Option.bind_some] at h
    split at h
    · rename_i hc
      obtain ⟨hgen, rfl, hall, hlen⟩ := hc
      simp at h
      obtain ⟨rfl, rfl⟩ := h
      have hT := tapp_ok hta
      have bumped : news = [] → (Builtin.append_ #[t, t] ty #[v, x]).run P M.w = .ok v M.w → ∃ u w' M', (Builtin.append_ #[t, t] ty #[v, x]).run P M.w = .ok u w' ∧ Moved M M' (M.H.set n { bl with rows := bl.rows ++ news, nl := bl.nl && news.isEmpty, gen := bl.gen + 1 }) w' ∧ Rv M' u (.own n (g + 1) (len + news.length)) := by
        rintro rfl hrun
        have hmv := bump_rep hM hb
        refine ⟨v, M.w, M.bump n bl, hrun, ⟨?_, rfl, hmv.rep, hmv.tr⟩, { bl with gen := bl.gen + 1 }, ?_, ?_, fun _ => ?_⟩
        · rw [hmv.H]; simp
        · simp [Mem.bump, (List.getElem?_eq_some_iff.1 hb).1]
        · simp only; omega
        · simpa [Mem.bump] using hg hgen
      have hlive : liveB M.H (.own n g len) = true := by simp [liveB, hb, hgen]
      cases hx with
      | nil =>
        refine bumped rfl ?_
        exact append_none hM ⟨_, _, hta⟩ hv hlive
      | sl b off m cap k0 _ val hn hm hcap hk hcc hrr =>
        by_cases h0 : bl.nl = true ∧ m = 0
        · obtain ⟨hnl, rfl⟩ := h0
          have hnews : news = [] := List.eq_nil_of_length_eq_zero hn
          subst hnews
          have hv0 : v = .slice none 0 0 := own_nil hv hb hgen hnl
          refine bumped rfl ?_
          subst hv0
          obtain ⟨hu, hk0, i, z, hi, hz, _⟩ := hT
          simp [Builtin.append_, run_underlying hu, sizeOf, typeInfo, hi, Builtin.lenOf, Builtin.firstCells, loadCells, loadCellsFrom]
        · have hkk : k0 = bl.k ∨ m = 0 := by
            rcases Nat.eq_zero_or_pos m with h1 | h1
            · exact .inr h1
            · refine .inl ?_
              have h2 : news ≠ [] := by intro h2; subst h2; simp at hn; omega
              obtain ⟨r, rest, rfl⟩ := List.exists_cons_of_ne_nil h2
              rw [← hk r List.mem_cons_self]; exact hall r List.mem_cons_self
          have hcc' : ∀ i, i < m * bl.k → M.S b (off + i) ∧ M.w.cell? ⟨b, off + i, none⟩ = some (val i) := by
            rcases hkk with rfl | rfl
            · exact hcc
            · intro i hi; simp at hi
          have hrr' : ∀ (i j : Nat) (r : List C) (c : C), news[i]? = some r → r[j]? = some c → Rd0 M.S M.w (val (i * bl.k + j)) c := by
            rcases hkk with rfl | rfl
            · exact hrr
            · intro i j r c hi
              have : news = [] := List.eq_nil_of_length_eq_zero hn
              subst this
              simp at hi
          obtain ⟨v', w', b', hrun, hR, hT', hrd⟩ := run_append_read (P := P) (ty := ty) hM hb hv hgen hT ⟨b, off, none⟩ m cap val news hn (fun hnl => by
            rcases Nat.eq_zero_or_pos m with h1 | h1
            · exact absurd ⟨hnl, h1⟩ h0
            · exact h1) hall (fun i hi => by rw [add_lit]; exact (hcc' i hi).2) (fun i hi => by
              have hk0 := hT.hk
              have hm1 : i / bl.k < m := by
                rw [Nat.div_lt_iff_lt_mul hk0]; exact hi
              have hrow : i / bl.k < news.length := by rw [hn]; exact hm1
              have hcol : i % bl.k < (news[i / bl.k]'hrow).length := by rw [hall _ (List.getElem_mem hrow)]; exact Nat.mod_lt _ hk0
              have := hrr' (i / bl.k) (i % bl.k) _ _ (List.getElem?_eq_getElem hrow) (List.getElem?_eq_getElem hcol)
              rw [Nat.mul_comm, Nat.div_add_mod] at this
              exact this.one) (by omega) (fun i j r c hi hj => by
              have := hrr' i j r c hi hj
              split
              · exact this
              · exact this.rc)
          refine ⟨v', w', _, hrun, ⟨?_, rfl, hR, hT'⟩, Rp.rv (by rw [hn]; exact hrd)⟩
          show M.H.set n _ = _
          have hnl' : (bl.nl && news.isEmpty) = false := by
            cases hnl : bl.nl with
            | false => rfl
            | true =>
              cases news with
              | nil => exact absurd ⟨hnl, by simpa using hn.symm⟩ h0
              | cons => rfl
          rw [hnl']
    · cases h
def appC (P : Program) (t : TypeId) (H : List Blk) : C → C → Option (C × List Blk)
  | .own n g len, .sl _ news => appH P t H n g len news
  | .sl true [], .sl _ news => (tapp P t).bind fun e => appH P t (H ++ [ghostB e.1 e.2]) H.length 0 0 news
  | _, _ => none
theorem doesE_append (hM : Rep M) {t : TypeId} {x y : Operand} {cx cy c : C} {H' : List Blk} (ho : o.op = .call ⟨.builtin .append, #[x, y], #[t, t]⟩) (hx : Rv M (a.eval x) cx) (hy : Rv M (a.eval y) cy) (h : appC P t M.H cx cy = some (c, H')) :
    DoesE P M a o c H' := by
  have fin : ∀ {u : Value} {w' : World} {M' : Mem}, (Builtin.append_ #[t, t] o.type #[a.eval x, a.eval y]).run P M.w = .ok u w' → Moved M M' H' w' → Rv M' u c → DoesE P M a o c H' := fun {u w' M'} hr hm hu => by
    refine .inl ⟨u, w', M', .inl ?_, hm, hu⟩
    simp [execOp, ho, resolve, invoke, builtin, hr]
  unfold appC at h
  split at h
  · rename_i n g len snl news
    obtain ⟨u, w', M', hr, hm, hu⟩ := append_sl (ty := o.type) hM hx hy h
    exact fin hr hm hu
  · rename_i snl news
    cases hta : tapp P t with
    | none => rw [hta] at h; simp at h
    | some e =>
      rw [hta] at h
      simp only [Option.bind_some] at h
      have hxv : a.eval x = .slice none 0 0 := sl_nil_val hx
      obtain ⟨hm0, hr0⟩ := ghost_rep hM e.1 e.2
      obtain ⟨u', w', M', hr, hm, hu⟩ := append_sl (P := P) (t := t) (ty := o.type) hm0.rep hr0 (Rd0.keep hm0.tr.S hy) h
      rw [hxv] at fin
      exact fin hr ⟨hm.H, hm.w, hm.rep, hm0.tr.trans hm.tr⟩ hu
  · cases h

/-! ### calls that write -/

def SpecH (P : Program) (G : GT) (f : FuncId) (F : List C → List Blk → Option (C × List Blk)) : Prop :=
  ∀ (M : Mem) args r H', F args M.H = some (r, H') → EntersAt P f ∧ ∀ vs, Rep M → GOK G M → Rvs M vs args → Calls P f vs M.w fun e w' => ∃ v M', e = .returned v ∧ Moved M M' H' w' ∧ Rv M' v r

structure Env where
  kp : FuncId → List C → Option C
  kh : FuncId → Option (List C → List Blk → Option (C × List Blk))
  vb : Nat → Bool
structure Env.OK (P : Program) (G : GT) (E : Env) : Prop where
  p : ∀ f, SpecP P G f (E.kp f)
  h : ∀ f F, E.kh f = some F → SpecH P G f F

def evEff (P : Program) (E : Env) (H : List Blk) (ρ : Operand → C) (o : Oper) : Option (C × List Blk) :=
  match o.op with
  | .alloc t => (tzero P t).map fun z => (.ptr H.length 0 0 0, H ++ [newVarB t (z.map .v)])
  | .box t x => if (o.dst.map E.vb).getD false = true then (partC H (ρ x)).map fun cs => (.ptr H.length 0 0 0, H ++ [newVarB t cs]) else (boxC H (ρ x)).map (·, H)
  | .store t x y => match ρ x with
    | .ptr n g i off => (partC H (ρ y)).bind fun cs => if tsize P t = some cs.length then (storeH H n g i off cs).map (.dead, ·) else none
    | _ => none
  | .call ⟨.builtin .append, ⟨[x, y]⟩, ⟨[t, t2]⟩⟩ => if t = t2 then appC P t H (ρ x) (normC H (ρ y)) else none
  | .call ⟨.builtin b, as, ts⟩ => (evCalm P E.kp H ρ o).map (·, H)
  | .call ⟨.value (.func f), as, ts⟩ => match E.kh f with
    | some F => (calleeC ρ ⟨.value (.func f), as, ts⟩).bind fun gc => if gc.1 = f then F gc.2 H else none
    | none => (evCalm P E.kp H ρ o).map (·, H)
  | _ => (evCalm P E.kp H ρ o).map (·, H)

theorem eff_sound {G : GT} {E : Env} (hE : E.OK P G) (hM : Rep M) (hG : GOK G M) {ρ : Operand → C} (hρ : ∀ x, Rv M (a.eval x) (ρ x)) {c : C} {H' : List Blk} (h : evEff P E M.H ρ o = some (c, H')) : DoesE P M a o c H' := by
  have calm : ∀ {c : C} {H' : List Blk}, (evCalm P E.kp M.H ρ o).map (·, M.H) = some (c, H') → DoesE P M a o c H' := fun {c H'} h => by
    simp only [Option.map_eq_some_iff, Prod.mk.injEq] at h
    obtain ⟨c', hc, rfl, rfl⟩ := h
    exact (calm_sound hE.p hM hG hρ hc).eff hM
  unfold evEff at h
  split at h
  · rename_i t hop
    simp only [Option.map_eq_some_iff, Prod.mk.injEq] at h
    obtain ⟨z, hz, rfl, rfl⟩ := h
    exact doesE_alloc hM hop hz
  · rename_i t x hop
    split at h
    · simp only [Option.map_eq_some_iff, Prod.mk.injEq] at h
      obtain ⟨cs, hcs, rfl, rfl⟩ := h
      exact doesE_box hM hop (hρ x) hcs
    · simp only [Option.map_eq_some_iff, Prod.mk.injEq] at h
      obtain ⟨c', hc, rfl, rfl⟩ := h
      exact (does_box hM hop (hρ x) hc).eff hM
  · rename_i t x y hop
    split at h
    · rename_i n g i off hx
      cases hp : partC M.H (ρ y) with
      | none => rw [hp] at h; simp at h
      | some cs =>
        rw [hp] at h
        simp only [Option.bind_some] at h
        split at h
        · rename_i hs
          simp only [Option.map_eq_some_iff, Prod.mk.injEq] at h
          obtain ⟨H1, hH, rfl, rfl⟩ := h
          exact doesE_store hM hop (hx ▸ hρ x) (hρ y) hp hs hH
        · cases h
    · cases h
  · rename_i x y t t2 hop
    split at h
    · rename_i ht
      subst ht
      exact doesE_append hM hop (hρ x) (norm_read hM (hρ y)) h
    · cases h
  · exact calm h
  · rename_i f as ts hop
    cases hk : E.kh f with
    | some F =>
      rw [hk] at h
      simp only at h
      cases hg : calleeC ρ ⟨.value (.func f), as, ts⟩ with
      | none => rw [hg] at h; simp at h
      | some gc =>
        obtain ⟨g, cs⟩ := gc
        rw [hg] at h
        simp only [Option.bind_some] at h
        split at h
        · rename_i hgf
          subst hgf
          obtain ⟨he, hF⟩ := hE.h g F hk M cs c H' h
          obtain ⟨vs, hrun, hvs⟩ := callee_run hρ hop hg he
          exact .inr ⟨g, vs, hrun, hF vs hM hG hvs⟩
        · cases h
    | none =>
      rw [hk] at h
      exact calm h
  · exact calm h
end
end Go.Proofs.YtiognfhjmcbbpaaDoor.Ev

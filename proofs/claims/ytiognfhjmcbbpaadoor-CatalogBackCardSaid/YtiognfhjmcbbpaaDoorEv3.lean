import Derived.Test.YtiognfhjmcbbpaaDoorEv2
namespace Go.Proofs.YtiognfhjmcbbpaaDoor.Ev
open Go.RowKit
set_option linter.unusedSimpArgs false
set_option linter.unusedVariables false

/-! ## Regions -/

def putT (d : Option Nat) (c : C) (t : List (Nat × C)) : List (Nat × C) := match d with | some d => (d, c) :: t | none => t
/-- One operation under its guard. -/
def evG (P : Program) (E : Env) (G : GT) (ops : Array Oper) (H : List Blk) (t : List (Nat × C)) (o : Oper) : Option (C × List Blk) :=
  match o.guard with
  | none => evEff P E H (opC G t) o
  | some (j, want) => match (ops[j]?).bind (·.dst) with
    | some d => match look t d with
      | .v (.bool b) => if b = want then evEff P E H (opC G t) o else some (.dead, H)
      | _ => none
    | none => none
def evOps (P : Program) (E : Env) (G : GT) (ops : Array Oper) : List Oper → List (Nat × C) → List Blk → Option (List (Nat × C) × List Blk)
  | [], t, H => some (t, H)
  | o :: rest, t, H => (evG P E G ops H t o).bind fun r => evOps P E G ops rest (putT o.dst r.1 t) r.2

structure At (G : GT) (nt : Nat) (M : Mem) (a : Act) (t : List (Nat × C)) (H : List Blk) : Prop where
  rep : Rep M
  gok : GOK G M
  hH : M.H = H
  reads : Reads M a t
  size : a.tmps.size = nt
  defers : a.defers = []
theorem At.put {G : GT} {nt : Nat} {M M' : Mem} {a : Act} {t : List (Nat × C)} {H H' : List Blk} (h : At G nt M a t H) {w' : World} (hm : Moved M M' H' w') {d : Option Nat} (hd : ∀ x, d = some x → x < nt) {v : Value} {c : C} (hv : Rv M' v c) : At G nt M' (a.put d v) (putT d c t) H' := by
  refine ⟨hm.rep, h.gok.keep hm.tr, hm.H, ?_, ?_, ?_⟩
  · cases d with
    | none => exact h.reads.keep hm.tr
    | some x => exact (h.reads.keep hm.tr).put (by rw [h.size]; exact hd x rfl) hv
  · cases d <;> simp [Act.put, h.size]
  · cases d <;> simp [Act.put, h.defers]

theorem look_bool {G : GT} {nt : Nat} {M : Mem} {a : Act} {t : List (Nat × C)} {H : List Blk} (h : At G nt M a t H) {d : Nat} {b : Bool} (hl : look t d = .v (.bool b)) : a.tmps[d]? = some (.bool b) := by
  have h1 := h.reads d
  rw [hl] at h1
  have h2 : a.tmps.getD d undef = .bool b := h1.1
  rw [Array.getD_eq_getD_getElem?] at h2
  cases hx : a.tmps[d]? with
  | none => rw [hx] at h2; simp [undef] at h2
  | some u => rw [hx] at h2; simp at h2; rw [h2]

/-- One operation, whatever its guard says. -/
theorem evG_sound {P : Program} {G : GT} {E : Env} (hE : E.OK P G) {nt : Nat} {M : Mem} {a : Act} {t : List (Nat × C)} {H : List Blk} (h : At G nt M a t H) {ops : Array Oper} {o : Oper} {c : C} {H' : List Blk} (hev : evG P E G ops H t o = some (c, H'))
    {K : Act → World → Prop} {Q : Exit → Act → World → Prop} (hK : ∀ v w' M', Moved M M' H' w' → Rv M' v c → K (a.put o.dst v) w') :
    if Region.wanted o (yielded ops a.tmps) then o.wp P a M.w K Q ∨ (o.asks P a M.w ∧ LetsOut Q) else K (a.put o.dst undef) M.w := by
  have doit : evEff P E H (opC G t) o = some (c, H') → o.wp P a M.w K Q := fun he => by
    have h2 : evEff P E M.H (opC G t) o = some (c, H') := by rw [h.hH]; exact he
    exact (eff_sound hE h.rep h.gok (fun x => opC_read h.gok h.reads x) h2).wp hK
  unfold evG at hev
  cases hg : o.guard with
  | none =>
    rw [hg] at hev
    simp only [Region.wanted, hg, if_true]
    exact .inl (doit hev)
  | some jw =>
    obtain ⟨j, want⟩ := jw
    rw [hg] at hev
    simp only at hev
    cases hd : (ops[j]?).bind (·.dst) with
    | none => rw [hd] at hev; cases hev
    | some d =>
      rw [hd] at hev
      simp only at hev
      split at hev
      · rename_i b hl
        have hy : yielded ops a.tmps j = some b := by
          unfold yielded
          rw [hd]
          simp [look_bool h hl]
        split at hev
        · rename_i hb
          simp only [Region.wanted, hg, hy, hb, beq_self_eq_true, if_true]
          exact .inl (doit hev)
        · rename_i hb
          simp at hev
          obtain ⟨rfl, rfl⟩ := hev
          have : (some b == some want) = false := by simpa using hb
          simp only [Region.wanted, hg, hy, this, Bool.false_eq_true, if_false]
          exact hK undef M.w M ⟨h.hH, rfl, h.rep, Trans.refl M⟩ trivial
      · cases hev

def dstOK (nt : Nat) (o : Oper) : Bool := match o.dst with | some d => decide (d < nt) | none => true
theorem dst_lt {nt : Nat} {o : Oper} (h : dstOK nt o = true) : ∀ x, o.dst = some x → x < nt := by
  intro x hx
  unfold dstOK at h
  rw [hx] at h
  simpa using h

theorem ops_sound {P : Program} {G : GT} {E : Env} (hE : E.OK P G) {nt : Nat} {ops : Array Oper} {Q : Exit → Act → World → Prop} : ∀ (l : List Oper) {M : Mem} {a : Act} {t : List (Nat × C)} {H : List Blk}, At G nt M a t H → l.all (dstOK nt) = true →
    ∀ {t' : List (Nat × C)} {H' : List Blk}, evOps P E G ops l t H = some (t', H') → (∀ M' a', At G nt M' a' t' H' → Trans M M' → Q .normal a' M'.w) → wpList P ops Q l a M.w
  | [], M, a, t, H, h, _, t', H', hev, hQ => by
    simp [evOps] at hev
    obtain ⟨rfl, rfl⟩ := hev
    exact hQ M a h (Trans.refl M)
  | o :: rest, M, a, t, H, h, hd, t', H', hev, hQ => by
    simp only [evOps] at hev
    cases hg : evG P E G ops H t o with
    | none => rw [hg] at hev; simp at hev
    | some r =>
      obtain ⟨c, H1⟩ := r
      rw [hg] at hev
      simp only [Option.bind_some] at hev
      simp only [List.all_cons, Bool.and_eq_true] at hd
      refine evG_sound hE h hg (fun v w' M' hm hv => ?_)
      have := ops_sound hE rest (h.put hm (dst_lt hd.1) hv) hd.2 hev (fun M'' a'' h1 h2 => hQ M'' a'' h1 (hm.tr.trans h2))
      rw [hm.w] at this
      exact this

theorem region_plain {P : Program} {G : GT} {E : Env} (hE : E.OK P G) {nt : Nat} {ops : Array Oper} {Q : Exit → Act → World → Prop} {id : Nat} {M : Mem} {a : Act} {t : List (Nat × C)} {H : List Blk} (h : At G nt M a t H) (hd : ops.toList.all (dstOK nt) = true)
    {t' : List (Nat × C)} {H' : List Blk} (hev : evOps P E G ops ops.toList t H = some (t', H')) (hQ : ∀ M' a', At G nt M' a' t' H' → Trans M M' → Q .normal a' M'.w) : (Code.region id ops false).wp P Q a M.w :=
  wp_region_list (ops_sound hE ops.toList h hd hev hQ)

/-! ## An operation hangs on its operands alone; and, where it reaches no handle, on no block -/

section
variable {P : Program} {E : Env} {kp : FuncId → List C → Option C} {H : List Blk} {ρ ρ' : Operand → C}

theorem flatRun_congr (o : Oper) (h : ∀ x ∈ o.op.operands, ρ x = ρ' x) : flatRun P ρ o = flatRun P ρ' o := by
  unfold flatRun
  have h1 : flats ρ o = flats ρ' o := by
    unfold flats
    rw [Bool.eq_iff_iff, Array.all_eq_true_iff_forall_mem, Array.all_eq_true_iff_forall_mem]
    constructor
    · intro hh x hx; rw [← h x hx]; exact hh x hx
    · intro hh x hx; rw [h x hx]; exact hh x hx
  rw [h1]
  split
  · by_cases hs : ∃ cs b, o.op = .select cs b
    · obtain ⟨cs, b, hs⟩ := hs
      rw [hs]
    · have : execOp (fun x => ((ρ x).flatV).getD undef) o = execOp (fun x => ((ρ' x).flatV).getD undef) o :=
        execOp_congr o (fun cs b e => hs ⟨cs, b, e⟩) (fun x hx => by rw [h x hx])
      rw [this]
  · rfl
theorem calleeC_congr (c : Call) (h : ∀ x ∈ c.operands, ρ x = ρ' x) : calleeC ρ c = calleeC ρ' c := by
  unfold calleeC
  have hargs : c.args.toList.map ρ = c.args.toList.map ρ' := List.map_congr_left fun x hx => h x (by
    unfold Call.operands
    exact Array.mem_append.2 (.inr (Array.mem_toList_iff.1 hx)))
  rw [hargs]
  cases hc : c.callee with
  | value f =>
    have : ρ f = ρ' f := h f (by simp [Call.operands, hc])
    simp only [this]
  | _ => rfl
theorem calm_congr (o : Oper) (h : ∀ x ∈ o.op.operands, ρ x = ρ' x) : evCalm P kp H ρ o = evCalm P kp H ρ' o := by
  have hf := flatRun_congr (P := P) o h
  have hparts : ∀ (ps : Array (Nat × Operand)), o.op.operands = (ps.toList.map (·.2)).toArray → (ps.toList.map fun p => (p.1, ρ p.2)) = ps.toList.map fun p => (p.1, ρ' p.2) := fun ps he =>
    List.map_congr_left fun p hp => by
      rw [h p.2 (by rw [he]; simp; exact ⟨p.1, by simpa using hp⟩)]
  have hcall : ∀ c, o.op = .call c → evCall P kp H ρ c = evCall P kp H ρ' c := fun c hc => by
    unfold evCall
    rw [calleeC_congr c (fun x hx => h x (by rw [hc]; exact hx))]
  unfold evCalm
  split
  case h_13 t ps hop => rw [hparts ps (by rw [hop]; rfl)]
  case h_14 t len ps hop => rw [hparts ps (by rw [hop]; rfl)]
  case h_17 f captured hop =>
    have hm : captured.toList.map ρ = captured.toList.map ρ' := List.map_congr_left fun x hx => h x (by
      rw [hop]; simp [Op.operands]; simpa using hx)
    have ha : captured.toList.all (fun x => capOK (ρ x)) = captured.toList.all (fun x => capOK (ρ' x)) := by
      rw [Bool.eq_iff_iff, List.all_eq_true, List.all_eq_true]
      have hx : ∀ x ∈ captured.toList, ρ x = ρ' x := fun x hx => h x (by rw [hop]; simp [Op.operands]; simpa using hx)
      constructor
      · intro hh x hx'; rw [← hx x hx']; exact hh x hx'
      · intro hh x hx'; rw [hx x hx']; exact hh x hx'
    rw [hm, ha]
  case h_15 t x lo hi hop =>
    have hx : ρ x = ρ' x := h x (by rw [hop]; simp [Op.operands])
    have hl : lo.map ρ = lo.map ρ' := by
      cases lo with
      | none => rfl
      | some y => simp only [Option.map_some]; rw [h y (by rw [hop]; simp [Op.operands])]
    have hh : hi.map ρ = hi.map ρ' := by
      cases hi with
      | none => rfl
      | some y => simp only [Option.map_some]; rw [h y (by rw [hop]; simp [Op.operands])]
    rw [hx, hl, hh]
  case h_20 c0 h1 h2 hop => exact hcall c0 hop
  case h_10 t x y hop => rw [h x (by rw [hop]; simp [Op.operands]), h y (by rw [hop]; simp [Op.operands])]
  case h_18 x t hop => rw [h x (by rw [hop]; simp [Op.operands, Call.operands])]
  all_goals
    rename_i hop
    simp only [hop, Op.operands, Call.operands] at h
    first
      | (rw [hf]; done)
      | (simp_all; done)

theorem eff_congr (o : Oper) (h : ∀ x ∈ o.op.operands, ρ x = ρ' x) : evEff P E H ρ o = evEff P E H ρ' o := by
  have hc := calm_congr (P := P) (kp := E.kp) (H := H) o h
  unfold evEff
  split
  case h_1 => rfl
  case h_2 t x hop => rw [h x (by rw [hop]; simp [Op.operands])]
  case h_3 t x y hop => rw [h x (by rw [hop]; simp [Op.operands]), h y (by rw [hop]; simp [Op.operands])]
  case h_4 x y t t2 hop => rw [h x (by rw [hop]; simp [Op.operands, Call.operands]), h y (by rw [hop]; simp [Op.operands, Call.operands])]
  case h_5 => rw [hc]
  case h_6 f as ts hop =>
    rw [hc, calleeC_congr _ (fun x hx => h x (by rw [hop]; exact hx))]
  all_goals rw [hc]

/-! ### what reaches no handle -/

theorem live_nil {c : C} (h : liveB [] c = true) : liveB H c = true := by
  cases c <;> simp_all [liveB]
theorem part_nil {c : C} {cs : List C} (h : partC [] c = some cs) : partC H c = some cs := by
  have one : ∀ {c : C}, (if liveB [] c = true then some [c] else none) = some cs → (if liveB H c = true then some [c] else none) = some cs := fun {c} h => by
    split at h
    · rename_i hl; rw [if_pos (live_nil hl)]; exact h
    · cases h
  cases c with
  | agg l =>
    simp only [partC] at h ⊢
    split at h
    · rename_i ha
      rw [if_pos]
      · exact h
      · rw [List.all_eq_true] at ha ⊢
        exact fun x hx => live_nil (ha x hx)
    · cases h
  | v x => exact one (c := .v x) h
  | sl k rows => exact one (c := .sl k rows) h
  | ip x => exact one (c := .ip x) h
  | ptr n g i off => exact one (c := .ptr n g i off) h
  | own n g len => exact one (c := .own n g len) h
  | fn f caps => exact one (c := .fn f caps) h
  | tup l => exact one (c := .tup l) h
  | dead => exact one (c := .dead) h
theorem fill_nil (place : Nat → Option (Nat × Nat)) : ∀ (ps : List (Nat × C)) (cells r : List C), fillC [] place cells ps = some r → fillC H place cells ps = some r
  | [], cells, r, h => h
  | (i, c) :: ps, cells, r, h => by
    simp only [fillC] at h ⊢
    cases hp : place i with
    | none => rw [hp] at h; simp at h
    | some p =>
      rw [hp] at h
      simp only [Option.bind_some] at h ⊢
      cases hq : partC [] c with
      | none => rw [hq] at h; simp at h
      | some cs =>
        rw [hq] at h
        rw [part_nil hq]
        simp only [Option.bind_some] at h ⊢
        split at h
        · rename_i hc
          rw [if_pos hc]
          exact fill_nil place ps _ r h
        · cases h
theorem mapM_mono {α β : Type} {f g : α → Option β} (hfg : ∀ a b, f a = some b → g a = some b) : ∀ (l : List α) (r : List β), l.mapM f = some r → l.mapM g = some r
  | [], r, h => h
  | a :: l, r, h => by
    simp only [List.mapM_cons, Option.bind_eq_bind, Option.bind_eq_some_iff, Option.pure_def, Option.some.injEq] at h ⊢
    obtain ⟨b, hb, r', hr, rfl⟩ := h
    exact ⟨b, hfg a b hb, r', mapM_mono hfg l r' hr, rfl⟩
theorem viewP_nil {c r : C} (h : viewP [] c = some r) : viewP H c = some r := by
  cases c <;> simp_all [viewP, ptrCells]
theorem viewC_nil {c r : C} (h : viewC [] c = some r) : viewC H c = some r := by
  cases c with
  | fn f caps =>
    simp only [viewC, Option.map_eq_some_iff] at h ⊢
    obtain ⟨l, hl, rfl⟩ := h
    exact ⟨l, mapM_mono (fun _ _ => viewP_nil) _ _ hl, rfl⟩
  | v x => exact viewP_nil (H := H) (c := .v x) h
  | sl k rows => exact viewP_nil (H := H) (c := .sl k rows) h
  | ip x => exact viewP_nil (H := H) (c := .ip x) h
  | ptr n g i off => exact viewP_nil (H := H) (c := .ptr n g i off) h
  | own n g len => exact viewP_nil (H := H) (c := .own n g len) h
  | agg l => exact viewP_nil (H := H) (c := .agg l) h
  | tup l => exact viewP_nil (H := H) (c := .tup l) h
  | dead => exact viewP_nil (H := H) (c := .dead) h
theorem viewA_nil {c r : C} (h : viewA [] c = some r) : viewA H c = some r := by
  cases c with
  | agg l =>
    simp only [viewA, Option.map_eq_some_iff] at h ⊢
    obtain ⟨l', hl, rfl⟩ := h
    exact ⟨l', mapM_mono (fun _ _ => viewC_nil) _ _ hl, rfl⟩
  | v x => exact viewC_nil (H := H) (c := .v x) h
  | sl k rows => exact viewC_nil (H := H) (c := .sl k rows) h
  | ip x => exact viewC_nil (H := H) (c := .ip x) h
  | ptr n g i off => exact viewC_nil (H := H) (c := .ptr n g i off) h
  | own n g len => exact viewC_nil (H := H) (c := .own n g len) h
  | fn f caps => exact viewC_nil (H := H) (c := .fn f caps) h
  | tup l => exact viewC_nil (H := H) (c := .tup l) h
  | dead => exact viewC_nil (H := H) (c := .dead) h
theorem norm_nil (c : C) : normC [] c = c := by cases c <;> simp [normC]
theorem idx_nil {t : TypeId} {n : Int} {c r : C} (h : idxC P [] t n c = some r) : idxC P H t n (normC H c) = some r := by
  cases c with
  | own m g len => simp [idxC] at h
  | ptr m g i off =>
    simp only [idxC] at h
    cases he : tarr P t with
    | none => rw [he] at h; simp at h
    | some e =>
      rw [he] at h
      simp [liveB] at h
  | _ => exact h
theorem evCall_nil {c : Call} {r : C} (h : evCall P kp [] ρ c = some r) : evCall P kp H ρ c = some r := by
  unfold evCall at h ⊢
  cases hg : calleeC ρ c with
  | none => rw [hg] at h; simp at h
  | some gc =>
    rw [hg] at h
    simp only [Option.bind_some] at h ⊢
    cases hv : gc.2.mapM (viewA []) with
    | none => rw [hv] at h; simp at h
    | some cs =>
      rw [hv] at h
      rw [mapM_mono (fun _ _ => viewA_nil) _ _ hv]
      exact h
theorem nilC_nil {c r : C} (h : nilC [] c = some r) : nilC H c = some r := by
  unfold nilC at h ⊢
  split at h <;> first | exact h | (simp [liveB] at h; done) | skip
theorem box_nil {c r : C} (h : boxC [] c = some r) : boxC H c = some r := by
  unfold boxC at h ⊢
  cases hp : partC [] c with
  | none => rw [hp] at h; simp at h
  | some cs => rw [hp] at h; rw [part_nil hp]; exact h
theorem field_nil {off : Nat} {c r : C} (h : fieldC [] off c = some r) : fieldC H off c = some r := by
  unfold fieldC at h ⊢
  split at h <;> first | exact h | (simp [liveB] at h; done) | skip
theorem build_nil {t : TypeId} {ps : List (Nat × C)} {c : C} (h : buildC P [] t ps = some c) : buildC P H t ps = some c := by
  unfold buildC at h ⊢
  cases hz : tzero P t with
  | none => rw [hz] at h; simp at h
  | some z =>
    rw [hz] at h
    simp only [Option.bind_some] at h ⊢
    cases hp : tplaces P t with
    | none => rw [hp] at h; simp at h
    | some pl =>
      rw [hp] at h
      simp only [Option.bind_some, Option.map_eq_some_iff] at h ⊢
      obtain ⟨r, hr, rfl⟩ := h
      exact ⟨r, fill_nil _ _ _ _ hr, rfl⟩
theorem bs_nil {t : TypeId} {len : Nat} {ps : List (Nat × C)} {c : C} (h : bsC P [] t len ps = some c) : bsC P H t len ps = some c := by
  unfold bsC at h ⊢
  cases he : telem P t with
  | none => rw [he] at h; simp at h
  | some e =>
    rw [he] at h
    simp only [Option.bind_some] at h ⊢
    cases hz : tzero P e.1 with
    | none => rw [hz] at h; simp at h
    | some z =>
      rw [hz] at h
      simp only [Option.bind_some] at h ⊢
      split at h
      · rename_i hc
        rw [if_pos hc]
        simp only [Option.bind_eq_some_iff] at h ⊢
        obtain ⟨r, hr, h⟩ := h
        exact ⟨r, fill_nil _ _ _ _ hr, h⟩
      · cases h
theorem len_nil {t : TypeId} {c r : C} (h : lenC P [] t c = some r) : lenC P H t c = some r := by
  unfold lenC at h ⊢
  split at h <;> first | exact h | (simp [liveB] at h; done) | skip
/-- Where no operand is a handle on a row of one's own. -/
def noOwn : C → Bool
  | .own _ _ _ => false
  | _ => true
theorem norm_noOwn {c : C} (h : noOwn c = true) : normC H c = c := by cases c <;> first | rfl | cases h

/-- An operation that reaches no handle. -/
def evFree (P : Program) (kp : FuncId → List C → Option C) (ρ : Operand → C) (o : Oper) : Option C :=
  if o.op.operands.all (fun x => noOwn (ρ x)) = true then evCalm P kp [] ρ o else match o.op with | .move x | .assign x => some (ρ x) | _ => none
theorem free_calm {o : Oper} {c : C} (h : evFree P kp ρ o = some c) : evCalm P kp H ρ o = some c := by
  unfold evFree at h
  split at h
  · rename_i hno
    rw [Array.all_eq_true_iff_forall_mem] at hno
    cases hop : o.op <;> simp only [evCalm, hop] at h ⊢ <;> (try exact h)
    case nilCheck x => exact nilC_nil h
    case box t x => exact box_nil h
    case load t x =>
      split at h
      · rename_i cs hx; (try simp only [hx]); exact h
      · simp [ptrCells] at h
      · cases h
    case fieldAddr s x f =>
      cases hf : tfield P s f with
      | none => rw [hf] at h; simp at h
      | some e =>
        rw [hf] at h
        simp only [Option.bind_some] at h ⊢
        split at h
        · rename_i hs; rw [if_pos hs]; exact field_nil h
        · cases h
    case indexAddr t x y =>
      split at h
      · rename_i k n hy
        (try simp only [hy])
        rw [norm_nil] at h
        exact idx_nil h
      · cases h
    case build t ps => exact build_nil h
    case buildSlice t len ps => exact bs_nil h
    case slice t x lo hi mx =>
      have hx := hno x (by rw [hop]; simp [Op.operands])
      cases mx with
      | some m => exact h
      | none =>
        simp only [norm_noOwn hx] at h ⊢
        exact h
    case makeFunc fn first captured =>
      cases fn with
      | func f =>
        rcases first with ⟨l⟩
        cases l <;> exact h
      | _ => exact h
    case call c0 =>
      obtain ⟨callee, args, tys⟩ := c0
      cases callee with
      | builtin b =>
        cases b <;> try exact h
        case len =>
          rcases args with ⟨l⟩
          rcases tys with ⟨m⟩
          cases l with
          | nil => exact h
          | cons x l =>
            cases l with
            | cons => exact h
            | nil =>
              cases m with
              | nil => exact h
              | cons t m =>
                cases m with
                | cons => exact h
                | nil =>
                  simp only at h ⊢
                  split at h
                  · rename_i u hx; (try simp only [hx]); exact h
                  · rename_i c1 hx
                    have := len_nil (H := H) h
                    cases hc : ρ x <;> first | (rw [hc] at this; exact this) | (exact absurd hc (hx _))
      | value f => exact evCall_nil h
      | invoke r m => exact evCall_nil h
  · cases hop : o.op <;> simp only [hop] at h <;> first | (simp only [evCalm, hop]; exact h) | cases h
end

/-! ## Regions whose order is open -/

def effB (E : Env) (o : Oper) : Bool :=
  match o.op with
  | .alloc _ | .store _ _ _ => true
  | .box _ _ => (o.dst.map E.vb).getD false
  | .call ⟨.builtin .append, _, _⟩ => true
  | .call ⟨.value (.func f), _, _⟩ => (E.kh f).isSome
  | _ => false
theorem eff_calm {P : Program} {E : Env} {H : List Blk} {ρ : Operand → C} {o : Oper} (h : effB E o = false) : evEff P E H ρ o = (evCalm P E.kp H ρ o).map (·, H) := by
  unfold evEff
  unfold effB at h
  split
  case h_1 t hop => rw [hop] at h; cases h
  case h_2 t x hop =>
    rw [hop] at h
    simp only at h
    rw [if_neg (by rw [h]; simp)]
    simp [evCalm, hop]
  case h_3 t x y hop => rw [hop] at h; cases h
  case h_4 x y t t2 hop => rw [hop] at h; cases h
  case h_5 => rfl
  case h_6 f as ts hop =>
    rw [hop] at h
    simp only at h
    cases hk : E.kh f with
    | some F => rw [hk] at h; cases h
    | none => rfl
  all_goals rfl

/-- Under its guard, where it reaches no handle. -/
def evGF (P : Program) (E : Env) (G : GT) (ops : Array Oper) (t : List (Nat × C)) (o : Oper) : Option C :=
  match o.guard with
  | none => evFree P E.kp (opC G t) o
  | some (j, want) => match (ops[j]?).bind (·.dst) with
    | some d => match look t d with
      | .v (.bool b) => if b = want then evFree P E.kp (opC G t) o else some .dead
      | _ => none
    | none => none
theorem evGF_ok {P : Program} {E : Env} {G : GT} {ops : Array Oper} {t : List (Nat × C)} {o : Oper} {c : C} (he : effB E o = false) (h : evGF P E G ops t o = some c) (H : List Blk) : evG P E G ops H t o = some (c, H) := by
  have key : evFree P E.kp (opC G t) o = some c → evEff P E H (opC G t) o = some (c, H) := fun hf => by
    rw [eff_calm he, free_calm hf]; rfl
  unfold evGF at h
  unfold evG
  cases hg : o.guard with
  | none => rw [hg] at h; exact key h
  | some jw =>
    obtain ⟨j, want⟩ := jw
    rw [hg] at h
    simp only at h ⊢
    cases hd : (ops[j]?).bind (·.dst) with
    | none => rw [hd] at h; cases h
    | some d =>
      rw [hd] at h
      simp only at h ⊢
      split at h
      · rename_i b hb
        (try simp only [hb])
        split at h
        · rename_i hbw; rw [if_pos hbw]; exact key h
        · rename_i hbw; rw [if_neg hbw]; simp at h; subst h; rfl
      · cases h
theorem evG_eff {P : Program} {E : Env} {G : GT} {ops : Array Oper} {t : List (Nat × C)} {o : Oper} {c : C} {H H' : List Blk} (he : effB E o = false) (h : evG P E G ops H t o = some (c, H')) : H' = H := by
  have key : evEff P E H (opC G t) o = some (c, H') → H' = H := fun hf => by
    rw [eff_calm he] at hf
    simp only [Option.map_eq_some_iff, Prod.mk.injEq] at hf
    obtain ⟨_, _, _, rfl⟩ := hf
    rfl
  unfold evG at h
  cases hg : o.guard with
  | none => rw [hg] at h; exact key h
  | some jw =>
    obtain ⟨j, want⟩ := jw
    rw [hg] at h
    simp only at h
    split at h
    · split at h
      · split at h
        · exact key h
        · simp at h; exact h.2.symm
      · cases h
    · cases h

/-- hd: which operations that do not write may look at blocks. -/
def evGD (P : Program) (E : Env) (G : GT) (ops : Array Oper) (hd : Nat → Bool) (H : List Blk) (t : List (Nat × C)) (i : Nat) (o : Oper) : Option (C × List Blk) :=
  if (effB E o || hd i) = true then evG P E G ops H t o else (evGF P E G ops t o).map (·, H)
def evOpsD (P : Program) (E : Env) (G : GT) (ops : Array Oper) (hd : Nat → Bool) : Nat → List Oper → List (Nat × C) → List Blk → Option (List (Nat × C) × List Blk)
  | _, [], t, H => some (t, H)
  | i, o :: rest, t, H => (evGD P E G ops hd H t i o).bind fun r => evOpsD P E G ops hd (i + 1) rest (putT o.dst r.1 t) r.2

def dirB (oj : Oper) (i : Nat) : Bool := oj.after.toList.any fun e => Region.binds .any e && e.on == i
def needB (E : Env) (hd : Nat → Bool) (ops : Array Oper) (i : Nat) (oi : Oper) (j : Nat) (oj : Oper) : Bool :=
  (match oi.dst with | some d => (oj.looksAt ops).contains d || oj.dst == some d | none => false) ||
  (match oj.dst with | some d => (oi.looksAt ops).contains d | none => false) ||
  (effB E oi && (effB E oj || hd j)) || (hd i && effB E oj)
def regB (E : Env) (hd : Nat → Bool) (ops : Array Oper) : Bool :=
  (List.range ops.size).all fun j => match ops[j]? with
    | none => false
    | some oj => oj.after.all (fun e => !Region.binds .any e || decide (e.on < j)) &&
      (List.range j).all fun i => match ops[i]? with
        | none => false
        | some oi => !needB E hd ops i oi j oj || dirB oj i
theorem reg_edge {E : Env} {hd : Nat → Bool} {ops : Array Oper} (h : regB E hd ops = true) {j : Nat} {oj : Oper} (hj : ops[j]? = some oj) {e : Edge} (he : e ∈ oj.after) (hb : Region.binds .any e = true) : e.on < j := by
  have hjl : j < ops.size := (Array.getElem?_eq_some_iff.1 hj).1
  have h1 := List.all_eq_true.1 h j (List.mem_range.2 hjl)
  simp only [hj, Bool.and_eq_true] at h1
  have h2 := Array.all_eq_true_iff_forall_mem.1 h1.1 e he
  simpa [hb] using h2
theorem reg_need {E : Env} {hd : Nat → Bool} {ops : Array Oper} (h : regB E hd ops = true) {i j : Nat} {oi oj : Oper} (hi : ops[i]? = some oi) (hj : ops[j]? = some oj) (hij : i < j) (hn : needB E hd ops i oi j oj = true) : ∃ e ∈ oj.after, Region.binds .any e = true ∧ e.on = i := by
  have hjl : j < ops.size := (Array.getElem?_eq_some_iff.1 hj).1
  have h1 := List.all_eq_true.1 h j (List.mem_range.2 hjl)
  simp only [hj, Bool.and_eq_true] at h1
  have h2 := List.all_eq_true.1 h1.2 i (List.mem_range.2 hij)
  simp only [hi, hn, Bool.not_true, Bool.false_or] at h2
  unfold dirB at h2
  rw [List.any_eq_true] at h2
  obtain ⟨e, he, h3⟩ := h2
  simp only [Bool.and_eq_true, beq_iff_eq] at h3
  exact ⟨e, Array.mem_toList_iff.1 he, h3.1, h3.2⟩

theorem seq_of {P : Program} {E : Env} {G : GT} {ops : Array Oper} {hd : Nat → Bool} : ∀ (l : List Oper) (k : Nat) (t : List (Nat × C)) (H : List Blk) (t' : List (Nat × C)) (H' : List Blk), evOpsD P E G ops hd k l t H = some (t', H') →
    ∃ (ts : Nat → List (Nat × C)) (Hs : Nat → List Blk) (cs : Nat → C), ts 0 = t ∧ Hs 0 = H ∧ ts l.length = t' ∧ Hs l.length = H' ∧
      ∀ i o, l[i]? = some o → evGD P E G ops hd (Hs i) (ts i) (k + i) o = some (cs i, Hs (i + 1)) ∧ ts (i + 1) = putT o.dst (cs i) (ts i)
  | [], k, t, H, t', H', h => by
    simp [evOpsD] at h
    obtain ⟨rfl, rfl⟩ := h
    exact ⟨fun _ => t, fun _ => H, fun _ => .dead, rfl, rfl, rfl, rfl, fun i o hi => by simp at hi⟩
  | o :: rest, k, t, H, t', H', h => by
    simp only [evOpsD] at h
    cases hg : evGD P E G ops hd H t k o with
    | none => rw [hg] at h; simp at h
    | some r =>
      rw [hg] at h
      simp only [Option.bind_some] at h
      obtain ⟨ts, Hs, cs, h1, h2, h3, h4, h5⟩ := seq_of rest (k + 1) _ _ _ _ h
      refine ⟨fun i => match i with | 0 => t | i + 1 => ts i, fun i => match i with | 0 => H | i + 1 => Hs i, fun i => match i with | 0 => r.1 | i + 1 => cs i, rfl, rfl, h3, h4, fun i o' hi => ?_⟩
      cases i with
      | zero =>
        simp at hi; subst hi
        simp only [h1, h2]
        exact ⟨hg, trivial⟩
      | succ i =>
        have := h5 i o' (by simpa using hi)
        rw [show k + (i + 1) = k + 1 + i by omega]
        exact this

theorem look_put_ne {d : Option Nat} {c : C} {t : List (Nat × C)} {x : Nat} (h : d ≠ some x) : look (putT d c t) x = look t x := by
  cases d with
  | none => rfl
  | some y => simp only [putT, look]; rw [if_neg (fun e => h (by rw [e]))]
theorem look_put_eq {c : C} {t : List (Nat × C)} {x : Nat} : look (putT (some x) c t) x = c := by simp [putT, look]

theorem opC_congr {G : GT} {t t' : List (Nat × C)} {ops : Array Oper} {o : Oper} (h : ∀ x, x ∈ o.looksAt ops → look t x = look t' x) : ∀ x ∈ o.op.operands, opC G t x = opC G t' x := by
  intro x hx
  cases x with
  | tmp n => exact h n (List.mem_append_left _ (List.mem_filterMap.2 ⟨.tmp n, by simpa using hx, rfl⟩))
  | _ => rfl
theorem free_congr {P : Program} {kp : FuncId → List C → Option C} {ρ ρ' : Operand → C} (o : Oper) (h : ∀ x ∈ o.op.operands, ρ x = ρ' x) : evFree P kp ρ o = evFree P kp ρ' o := by
  unfold evFree
  have h1 : o.op.operands.all (fun x => noOwn (ρ x)) = o.op.operands.all (fun x => noOwn (ρ' x)) := by
    rw [Bool.eq_iff_iff, Array.all_eq_true_iff_forall_mem, Array.all_eq_true_iff_forall_mem]
    constructor
    · intro hh x hx; rw [← h x hx]; exact hh x hx
    · intro hh x hx; rw [h x hx]; exact hh x hx
  rw [h1, calm_congr o h]
  cases hop : o.op <;> simp only
  case move x => rw [h x (by rw [hop]; simp [Op.operands])]
  case assign x => rw [h x (by rw [hop]; simp [Op.operands])]
theorem guard_look {ops : Array Oper} {o : Oper} {t t' : List (Nat × C)} (h : ∀ x, x ∈ o.looksAt ops → look t x = look t' x) {j : Nat} {w : Bool} (hg : o.guard = some (j, w)) {d : Nat} (hd : (ops[j]?).bind (·.dst) = some d) : look t d = look t' d :=
  h d (List.mem_append_right _ (by rw [hg]; simp [hd]))
theorem evGD_congr {P : Program} {E : Env} {G : GT} {ops : Array Oper} {hd : Nat → Bool} {H : List Blk} {t t' : List (Nat × C)} {i : Nat} {o : Oper} (h : ∀ x, x ∈ o.looksAt ops → look t x = look t' x) : evGD P E G ops hd H t i o = evGD P E G ops hd H t' i o := by
  have hc := opC_congr (G := G) h
  unfold evGD evG evGF
  rw [eff_congr o hc, free_congr o hc]
  cases hg : o.guard with
  | none => rfl
  | some jw =>
    obtain ⟨j, w⟩ := jw
    simp only
    cases hdd : (ops[j]?).bind (·.dst) with
    | none => rfl
    | some d => simp only [guard_look h hg hdd]

/-- What the temporaries say where only some operations have been done. -/
def tL (ops : Array Oper) (cs : Nat → C) (t0 : List (Nat × C)) (L : Array Bool) : Nat → List (Nat × C)
  | 0 => t0
  | i + 1 => if L.getD i false = true then putT ((ops[i]?).bind (·.dst)) (cs i) (tL ops cs t0 L i) else tL ops cs t0 L i
def hL (E : Env) (ops : Array Oper) (Hs : Nat → List Blk) (L : Array Bool) : Nat → List Blk
  | 0 => Hs 0
  | i + 1 => if L.getD i false = true ∧ ((ops[i]?).map (effB E)).getD false = true then Hs (i + 1) else hL E ops Hs L i

section
variable {P : Program} {E : Env} {G : GT} {ops : Array Oper} {hd : Nat → Bool} {ts : Nat → List (Nat × C)} {Hs : Nat → List Blk} {cs : Nat → C}

theorem look_tL {L : Array Bool} {x j : Nat} (hstep : ∀ i o, ops[i]? = some o → ts (i + 1) = putT o.dst (cs i) (ts i)) (hlo : ∀ k o, ops[k]? = some o → o.dst = some x → k < j → L.getD k false = true) (hhi : ∀ k o, ops[k]? = some o → o.dst = some x → j ≤ k → L.getD k false = false) :
    ∀ i, i ≤ ops.size → look (tL ops cs (ts 0) L i) x = look (ts (min i j)) x
  | 0, _ => by simp [tL]
  | i + 1, hi => by
    have ih := look_tL (j := j) hstep hlo hhi i (by omega)
    obtain ⟨o, ho⟩ : ∃ o, ops[i]? = some o := ⟨ops[i]'(by omega), Array.getElem?_eq_getElem (by omega)⟩
    simp only [tL, ho, Option.bind_some]
    by_cases hx : o.dst = some x
    · by_cases hij : i < j
      · rw [if_pos (hlo i o ho hx hij), hx, look_put_eq]
        rw [show min (i + 1) j = i + 1 by omega, hstep i o ho, hx, look_put_eq]
      · rw [if_neg (by rw [hhi i o ho hx (by omega)]; simp), ih]
        rw [show min (i + 1) j = min i j by omega]
    · have h1 : look (if L.getD i false = true then putT o.dst (cs i) (tL ops cs (ts 0) L i) else tL ops cs (ts 0) L i) x = look (tL ops cs (ts 0) L i) x := by
        split
        · exact look_put_ne hx
        · rfl
      rw [h1, ih]
      by_cases hij : i < j
      · rw [show min (i + 1) j = i + 1 by omega, show min i j = i by omega, hstep i o ho, look_put_ne hx]
      · rw [show min (i + 1) j = min i j by omega]
theorem hL_at {L : Array Bool} {j : Nat} (hcalm : ∀ i o, ops[i]? = some o → effB E o = false → Hs (i + 1) = Hs i) (hlo : ∀ k o, ops[k]? = some o → effB E o = true → k < j → L.getD k false = true) (hhi : ∀ k o, ops[k]? = some o → effB E o = true → j ≤ k → L.getD k false = false) :
    ∀ i, i ≤ ops.size → hL E ops Hs L i = Hs (min i j)
  | 0, _ => by simp [hL]
  | i + 1, hi => by
    have ih := hL_at (j := j) hcalm hlo hhi i (by omega)
    obtain ⟨o, ho⟩ : ∃ o, ops[i]? = some o := ⟨ops[i]'(by omega), Array.getElem?_eq_getElem (by omega)⟩
    simp only [hL, ho, Option.map_some, Option.getD_some]
    by_cases hx : effB E o = true
    · by_cases hij : i < j
      · rw [if_pos ⟨hlo i o ho hx hij, hx⟩, show min (i + 1) j = i + 1 by omega]
      · rw [if_neg (by rw [hhi i o ho hx (by omega)]; simp), ih, show min (i + 1) j = min i j by omega]
    · rw [if_neg (fun h => hx h.2), ih]
      by_cases hij : i < j
      · rw [show min (i + 1) j = i + 1 by omega, show min i j = i by omega, hcalm i o ho (by simpa using hx)]
      · rw [show min (i + 1) j = min i j by omega]
theorem hL_set {L : Array Bool} {j : Nat} (hj : ∀ o, ops[j]? = some o → effB E o = false) : ∀ i, hL E ops Hs (L.setIfInBounds j true) i = hL E ops Hs L i
  | 0 => rfl
  | i + 1 => by
    simp only [hL, hL_set hj i]
    by_cases e : i = j
    · subst e
      cases ho : ops[i]? with
      | none => simp
      | some o => simp [hj o ho]
    · rw [getD_set_ne _ _ _ _ _ (fun h : j = i => e h.symm)]
end

section
variable {P : Program} {E : Env} {G : GT} {ops : Array Oper} {hd : Nat → Bool} {ts : Nat → List (Nat × C)} {Hs : Nat → List Blk} {cs : Nat → C} {nt : Nat}

theorem getD_true {L : Array Bool} {i j : Nat} (hi : i < L.size) : (L.setIfInBounds i true).getD j false = if i = j then true else L.getD j false := by
  by_cases e : i = j
  · subst e; rw [if_pos rfl, getD_set_eq _ _ _ _ hi]
  · rw [if_neg e, getD_set_ne _ _ _ _ _ e]

/-- The state between two operations: L have been done. -/
structure Mid (G : GT) (E : Env) (ops : Array Oper) (cs : Nat → C) (ts : Nat → List (Nat × C)) (Hs : Nat → List Blk) (nt : Nat) (M0 M : Mem) (a : Act) (L : Array Bool) : Prop where
  at_ : At G nt M a (tL ops cs (ts 0) L ops.size) (hL E ops Hs L ops.size)
  tr : Trans M0 M
  size : L.size = ops.size
  closed : ∀ k o, ops[k]? = some o → L.getD k false = true → ∀ e ∈ o.after, Region.binds .any e = true → L.getD e.on false = true

theorem draw_go (hE : E.OK P G) (hreg : regB E hd ops = true) (hdst : ops.toList.all (dstOK nt) = true)
    (hstep : ∀ i o, ops[i]? = some o → evGD P E G ops hd (Hs i) (ts i) i o = some (cs i, Hs (i + 1)) ∧ ts (i + 1) = putT o.dst (cs i) (ts i)) {Q : Exit → Act → World → Prop} {M0 : Mem}
    (hQ : ∀ M' a', At G nt M' a' (ts ops.size) (Hs ops.size) → Trans M0 M' → Q .normal a' M'.w) :
    ∀ (fuel : Nat) (L : Array Bool) (a : Act) (M : Mem), Mid G E ops cs ts Hs nt M0 M a L → (L.toList.countP (fun b => !b)) ≤ fuel → wpAny P .any ops Q fuel L a M.w := by
  have hcalm : ∀ i o, ops[i]? = some o → effB E o = false → Hs (i + 1) = Hs i := by
    intro i o ho he
    have h1 := (hstep i o ho).1
    unfold evGD at h1
    split at h1
    · exact evG_eff he h1
    · simp only [Option.map_eq_some_iff, Prod.mk.injEq] at h1
      obtain ⟨_, _, _, h2⟩ := h1
      exact h2.symm
  have hts : ∀ i o, ops[i]? = some o → ts (i + 1) = putT o.dst (cs i) (ts i) := fun i o ho => (hstep i o ho).2
  -- all done
  have done : ∀ (L : Array Bool) (a : Act) (M : Mem), Mid G E ops cs ts Hs nt M0 M a L → (∀ k, k < ops.size → L.getD k false = true) → Q .normal a M.w := by
    intro L a M h hall
    have h1 : hL E ops Hs L ops.size = Hs ops.size := by
      rw [hL_at (j := ops.size) hcalm (fun k o ho _ _ => hall k (Array.getElem?_eq_some_iff.1 ho).1) (fun k o ho _ hk => absurd (Array.getElem?_eq_some_iff.1 ho).1 (by omega)) ops.size (Nat.le_refl _)]
      rw [Nat.min_self]
    have h2 : ∀ x, look (tL ops cs (ts 0) L ops.size) x = look (ts ops.size) x := fun x => by
      rw [look_tL (j := ops.size) hts (fun k o ho _ _ => hall k (Array.getElem?_eq_some_iff.1 ho).1) (fun k o ho _ hk => absurd (Array.getElem?_eq_some_iff.1 ho).1 (by omega)) ops.size (Nat.le_refl _)]
      rw [Nat.min_self]
    have ha := h.at_
    exact hQ M a ⟨ha.rep, ha.gok, by rw [ha.hH, h1], fun n => by rw [← h2 n]; exact ha.reads n, ha.size, ha.defers⟩ h.tr
  have none_left : ∀ (L : Array Bool), L.size = ops.size → Region.ready .any ops L = [] → ∀ k, k < ops.size → L.getD k false = true := by
    intro L hs hr k
    induction k using Nat.strongRecOn with
    | _ k ih =>
      intro hk
      cases hb : L.getD k false with
      | true => rfl
      | false =>
        have ho : ops[k]? = some ops[k] := Array.getElem?_eq_getElem hk
        have : k ∈ Region.ready .any ops L := by
          rw [mem_ready]
          refine ⟨?_, ops[k], ho, fun e he hbb => ih e.on (reg_edge hreg ho he hbb) ?_⟩
          · rw [Array.getD_eq_getD_getElem?] at hb ⊢
            rw [Array.getElem?_eq_getElem (by omega)] at hb ⊢
            simpa using hb
          · have := reg_edge hreg ho he hbb
            omega
        rw [hr] at this
        cases this
  intro fuel
  induction fuel with
  | zero =>
    intro L a M h hc
    have hall : ∀ k, k < ops.size → L.getD k false = true := by
      intro k hk
      cases hb : L.getD k false with
      | true => rfl
      | false =>
        have hl : k < L.size := by rw [h.size]; exact hk
        have hmem : L[k] ∈ L.toList := by simp
        have hf : L[k] = false := by
          rw [Array.getD_eq_getD_getElem?, Array.getElem?_eq_getElem hl] at hb
          simpa using hb
        have : 0 < L.toList.countP (fun b => !b) := List.countP_pos_iff.2 ⟨L[k], hmem, by simp [hf]⟩
        omega
    refine ⟨?_, done L a M h hall⟩
    cases hr : Region.ready .any ops L with
    | nil => rfl
    | cons i l =>
      have hi : i ∈ Region.ready .any ops L := by rw [hr]; exact List.mem_cons_self
      obtain ⟨h0, o, ho, _⟩ := mem_ready.1 hi
      have := hall i (Array.getElem?_eq_some_iff.1 ho).1
      have hl : i < L.size := by rw [h.size]; exact (Array.getElem?_eq_some_iff.1 ho).1
      rw [Array.getD_eq_getD_getElem?, Array.getElem?_eq_getElem hl] at h0 this
      simp at h0 this
      rw [h0] at this
      cases this
  | succ fuel ih =>
    intro L a M h hc
    refine ⟨fun hr => done L a M h (none_left L h.size hr), fun j hj => ?_⟩
    obtain ⟨hj0, o, ho, hall⟩ := mem_ready.1 hj
    have hjl : j < ops.size := (Array.getElem?_eq_some_iff.1 ho).1
    have hjL : j < L.size := by rw [h.size]; exact hjl
    have hjf : L.getD j false = false := by
      rw [Array.getD_eq_getD_getElem?, Array.getElem?_eq_getElem hjL] at hj0 ⊢
      simpa using hj0
    -- what is before j has been done, what is behind it has not
    have lo : ∀ k ok, ops[k]? = some ok → k < j → needB E hd ops k ok j o = true → L.getD k false = true := by
      intro k ok hk hkj hn
      obtain ⟨e, he, hb, rfl⟩ := reg_need hreg hk ho hkj hn
      exact hall e he hb
    have hi : ∀ k ok, ops[k]? = some ok → j < k → needB E hd ops j o k ok = true → L.getD k false = false := by
      intro k ok hk hkj hn
      obtain ⟨e, he, hb, hej⟩ := reg_need hreg ho hk hkj hn
      cases hL : L.getD k false with
      | false => rfl
      | true =>
        have := h.closed k ok hk hL e he hb
        rw [hej, hjf] at this
        cases this
    have hlook : ∀ x, x ∈ o.looksAt ops → look (tL ops cs (ts 0) L ops.size) x = look (ts j) x := by
      intro x hx
      rw [look_tL (j := j) hts (fun k ok hk hd' hkj => lo k ok hk hkj (by simp [needB, hd', hx])) (fun k ok hk hd' hkj => by
        rcases Nat.lt_or_ge j k with h1 | h1
        · exact hi k ok hk h1 (by simp [needB, hd', hx])
        · have : k = j := by omega
          subst this; exact hjf) ops.size (Nat.le_refl _), Nat.min_eq_right (Nat.le_of_lt hjl)]
    obtain ⟨hg, htj⟩ := hstep j o ho
    have ha := h.at_
    -- the same, told of what is there now
    have hev : ∃ Hx, evG P E G ops (hL E ops Hs L ops.size) (tL ops cs (ts 0) L ops.size) o = some (cs j, Hx) ∧ (effB E o = true → Hx = Hs (j + 1)) ∧ (effB E o = false → Hx = hL E ops Hs L ops.size) := by
      rw [← evGD_congr hlook] at hg
      have hHj : (effB E o || hd j) = true → hL E ops Hs L ops.size = Hs j := by
        intro hor
        rw [hL_at (j := j) hcalm (fun k ok hk he hkj => lo k ok hk hkj (by
          unfold needB
          rw [he, hor]
          simp)) (fun k ok hk he hkj => by
          rcases Nat.lt_or_ge j k with h1 | h1
          · refine hi k ok hk h1 ?_
            unfold needB
            rw [he]
            rcases Bool.or_eq_true _ _ |>.mp hor with h2 | h2 <;> rw [h2] <;> simp
          · have : k = j := by omega
            subst this; exact hjf) ops.size (Nat.le_refl _), Nat.min_eq_right (Nat.le_of_lt hjl)]
      unfold evGD at hg
      split at hg
      · rename_i hor
        rw [hHj hor]
        refine ⟨Hs (j + 1), hg, fun _ => rfl, fun he => ?_⟩
        exact hcalm j o ho he
      · rename_i hor
        simp only [Bool.not_eq_true, Bool.or_eq_false_iff] at hor
        simp only [Option.map_eq_some_iff, Prod.mk.injEq] at hg
        obtain ⟨c, hc1, rfl, _⟩ := hg
        exact ⟨_, evGF_ok hor.1 hc1 _, (fun he => by rw [hor.1] at he; cases he), fun _ => rfl⟩
    obtain ⟨Hx, hev, hx1, hx2⟩ := hev
    have hdo : dstOK nt o = true := List.all_eq_true.1 hdst o (by
      rw [Array.mem_toList_iff]
      exact Array.mem_of_getElem? ho)
    have main := evG_sound (K := wpAny P .any ops Q fuel (L.setIfInBounds j true)) (Q := Q) hE ha hev (fun v w' M' hm hv => by
      have hat := ha.put hm (dst_lt hdo) hv
      have hmid : Mid G E ops cs ts Hs nt M0 M' (a.put o.dst v) (L.setIfInBounds j true) := by
        refine ⟨⟨hat.rep, hat.gok, ?_, ?_, hat.size, hat.defers⟩, h.tr.trans hm.tr, by simp [h.size], ?_⟩
        · rw [hat.hH]
          cases he : effB E o with
          | true =>
            rw [hx1 he]
            rw [hL_at (j := j + 1) hcalm (fun k ok hk hek hkj => by
              rw [getD_true hjL]
              split
              · rfl
              · exact lo k ok hk (by omega) (by unfold needB; rw [hek, he]; simp)) (fun k ok hk hek hkj => by
              rw [getD_true hjL, if_neg (by omega)]
              exact hi k ok hk (by omega) (by unfold needB; rw [hek, he]; simp)) ops.size (Nat.le_refl _), Nat.min_eq_right hjl]
          | false =>
            rw [hx2 he, hL_set (fun o' ho' => by rw [ho] at ho'; cases ho'; exact he)]
        · intro n
          have hr := hat.reads n
          by_cases hn : o.dst = some n
          · rw [hn, look_put_eq] at hr
            rw [look_tL (j := j + 1) hts (fun k ok hk hdk hkj => by
              rw [getD_true hjL]
              split
              · rfl
              · exact lo k ok hk (by omega) (by simp [needB, hdk, hn])) (fun k ok hk hdk hkj => by
              rw [getD_true hjL, if_neg (by omega)]
              exact hi k ok hk (by omega) (by simp [needB, hdk, hn])) ops.size (Nat.le_refl _), Nat.min_eq_right hjl, htj, hn, look_put_eq]
            exact hr
          · rw [look_put_ne hn] at hr
            have hset : ∀ i, look (tL ops cs (ts 0) (L.setIfInBounds j true) i) n = look (tL ops cs (ts 0) L i) n := by
              intro i
              induction i with
              | zero => rfl
              | succ i ihh =>
                simp only [tL]
                by_cases e : j = i
                · subst e
                  rw [getD_true hjL, if_pos rfl, if_pos rfl, hjf, if_neg (by simp), ho]
                  simp only [Option.bind_some]
                  rw [look_put_ne hn]
                  exact ihh
                · rw [getD_true hjL, if_neg e]
                  split
                  · by_cases hq : (ops[i]?).bind (·.dst) = some n
                    · rw [hq, look_put_eq, look_put_eq]
                    · rw [look_put_ne hq, look_put_ne hq]; exact ihh
                  · exact ihh
            rw [hset]
            exact hr
        · intro k ok hk hLk e he hb
          rw [getD_true hjL]
          split
          · rfl
          · by_cases hjk : j = k
            · subst hjk
              rw [ho] at hk; cases hk
              exact hall e he hb
            · rw [getD_true hjL, if_neg hjk] at hLk
              exact h.closed k ok hk hLk e he hb
      have hcount : ((L.setIfInBounds j true).toList.countP fun b => !b) ≤ fuel := by
        have hjb : L.toList[j]'(by simpa using hjL) = false := by
          rw [Array.getD_eq_getD_getElem?, Array.getElem?_eq_getElem hjL] at hjf
          simpa using hjf
        have h1 : (L.setIfInBounds j true).toList = L.toList.set j true := by simp
        rw [h1, List.countP_set (by simpa using hjL)]
        rw [hjb]
        simp only [Bool.not_false, if_true, Bool.not_true, Bool.false_eq_true, if_false]
        omega
      have := ih (L.setIfInBounds j true) (a.put o.dst v) M' hmid hcount
      rw [hm.w] at this
      exact this)
    unfold wpOp
    simp only [ho]
    exact main

theorem region_draw (hfol : P.follows .mixedOrders = true) (hE : E.OK P G) {id : Nat} (hreg : regB E hd ops = true) (hdst : ops.toList.all (dstOK nt) = true) {Q : Exit → Act → World → Prop} {M : Mem} {a : Act} {t : List (Nat × C)} {H : List Blk} (h : At G nt M a t H)
    {t' : List (Nat × C)} {H' : List Blk} (hev : evOpsD P E G ops hd 0 ops.toList t H = some (t', H')) (hQ : ∀ M' a', At G nt M' a' t' H' → Trans M M' → Q .normal a' M'.w) : (Code.region id ops true).wp P Q a M.w := by
  obtain ⟨ts, Hs, cs, h1, h2, h3, h4, h5⟩ := seq_of ops.toList 0 t H t' H' hev
  have hb : Below M.w.heap.size M.w M.w.drew := (Below.refl _ _).drew
  obtain ⟨hr, ht⟩ := grew h.rep hb
  refine wp_region_any hfol ?_
  have hgo := draw_go (P := P) (E := E) (G := G) (ops := ops) (hd := hd) (ts := ts) (Hs := Hs) (cs := cs) (nt := nt) (Q := Q) (M0 := M) hE hreg hdst (fun i o ho => by
    have := h5 i o (by simpa using ho)
    simpa using this) (fun M' a' ha' ht' => hQ M' a' (by
      have e1 : ops.size = ops.toList.length := by simp
      rw [e1, h3, h4] at ha'
      exact ha') ht') ops.size (Array.replicate ops.size false) a (M.later M.w.drew) (by
    have hrep : ∀ k, (Array.replicate ops.size false).getD k false = false := fun k => by
      simp only [Array.getD_eq_getD_getElem?, Array.getElem?_replicate]
      split <;> rfl
    have e1 : ∀ i, tL ops cs (ts 0) (Array.replicate ops.size false) i = ts 0 := fun i => by
      induction i with
      | zero => rfl
      | succ i ih => simp only [tL]; rw [hrep, if_neg (by simp), ih]
    have e2 : ∀ i, hL E ops Hs (Array.replicate ops.size false) i = Hs 0 := fun i => by
      induction i with
      | zero => rfl
      | succ i ih => simp only [hL]; rw [hrep, if_neg (by simp), ih]
    refine ⟨?_, ht, by simp, fun k o ho hk => by rw [hrep] at hk; cases hk⟩
    rw [e1, e2, h1, h2]
    exact ⟨hr, h.gok.keep ht, h.hH, h.reads.keep ht, h.size, h.defers⟩) (by
    refine Nat.le_trans List.countP_le_length ?_
    simp)
  exact hgo
end

/-! ## Code -/

/-- As Trans; of handles, those below m alone. -/
structure TransU (m : Nat) (M M' : Mem) : Prop where
  B : M'.B = M.B
  w0 : M'.w0 = M.w0
  S0 : M'.S0 = M.S0
  T0 : M'.T0 = M.T0
  S : ∀ b o, M.S b o → M'.S b o ∧ ∀ u, M.w.cell? ⟨b, o, none⟩ = some u → M'.w.cell? ⟨b, o, none⟩ = some u
  T : ∀ b o, M.T b o → M'.T b o ∧ ∀ u, M.w.cell? ⟨b, o, none⟩ = some u → M'.w.cell? ⟨b, o, none⟩ = some u
  H : ∀ n bl, n < m → M.H[n]? = some bl → ∃ bl', M'.H[n]? = some bl' ∧ bl.gen ≤ bl'.gen ∧ (bl'.gen = bl.gen → bl'.ty = bl.ty ∧ bl'.k = bl.k ∧ bl'.nl = bl.nl ∧ (bl.nl = false → M'.β n = M.β n) ∧ bl'.rows.length = bl.rows.length ∧
    (bl.nl = false → ∀ cur, M.w.heap[M.β n]? = some (.cells cur bl.ty (0, 0)) → ∃ cur' : Array Value, M'.w.heap[M.β n]? = some (.cells cur' bl.ty (0, 0)) ∧ cur'.size = cur.size))
theorem Trans.u {M M' : Mem} (h : Trans M M') (m : Nat) : TransU m M M' := ⟨h.B, h.w0, h.S0, h.T0, h.S, h.T, fun n bl _ => h.H n bl⟩
theorem TransU.full {M M' : Mem} (h : TransU M.H.length M M') : Trans M M' := ⟨h.B, h.w0, h.S0, h.T0, h.S, h.T, fun n bl hn => h.H n bl (List.getElem?_eq_some_iff.1 hn).1 hn⟩
theorem TransU.trans {m : Nat} {M M' M'' : Mem} (h : TransU m M M') (k : TransU m M' M'') : TransU m M M'' := by
  refine ⟨k.B.trans h.B, k.w0.trans h.w0, k.S0.trans h.S0, k.T0.trans h.T0, fun b o hs => ?_, fun b o hs => ?_, fun n bl hm hn => ?_⟩
  · have h1 := h.S b o hs
    have h2 := k.S b o h1.1
    exact ⟨h2.1, fun u hu => h2.2 u (h1.2 u hu)⟩
  · have h1 := h.T b o hs
    have h2 := k.T b o h1.1
    exact ⟨h2.1, fun u hu => h2.2 u (h1.2 u hu)⟩
  · obtain ⟨bl', h1, h2, h3⟩ := h.H n bl hm hn
    obtain ⟨bl'', k1, k2, k3⟩ := k.H n bl' hm h1
    refine ⟨bl'', k1, Nat.le_trans h2 k2, fun e => ?_⟩
    have e1 : bl'.gen = bl.gen := by omega
    have e2 : bl''.gen = bl'.gen := by omega
    obtain ⟨a1, a2, a0, a3, a4, a5⟩ := h3 e1
    obtain ⟨b1, b2, b0, b3, b4, b5⟩ := k3 e2
    refine ⟨b1.trans a1, b2.trans a2, b0.trans a0, fun hn => (b3 (a0.trans hn)).trans (a3 hn), b4.trans a4, fun hn cur hc => ?_⟩
    obtain ⟨cur', hc', hs⟩ := a5 hn cur hc
    obtain ⟨cur'', hc'', hs'⟩ := b5 (a0.trans hn) cur' (by rw [a3 hn, a1]; exact hc')
    exact ⟨cur'', by rw [a3 hn, a1] at hc''; exact hc'', hs'.trans hs⟩
theorem TransU.refl (m : Nat) (M : Mem) : TransU m M M := (Trans.refl M).u m

/-- What is fixed while one function is looked at. -/
structure Ctx where
  P : Program
  G : GT
  E : Env
  nt : Nat
  m : Nat
  hd : Nat → Nat → Bool
  keep : List Nat
structure Ctx.OK (X : Ctx) : Prop where
  env : X.E.OK X.P X.G
  mixed : X.P.follows .mixedOrders = true

abbrev Post := Exit → List (Nat × C) → List Blk → Prop
def Post.lift (X : Ctx) (M : Mem) (Q : Post) : Exit → Act → World → Prop := fun x a' w' => ∃ M' t' H', M'.w = w' ∧ TransU X.m M M' ∧ At X.G X.nt M' a' t' H' ∧ Q x t' H'
/-- From this state the code comes to Q. -/
def Aw (X : Ctx) (c : Code) (Q : Post) (t : List (Nat × C)) (H : List Blk) : Prop :=
  ∀ M a, At X.G X.nt M a t H → c.wp X.P (Q.lift X M) a M.w

def keepT (keep : List Nat) (t : List (Nat × C)) : List (Nat × C) := keep.map fun n => (n, look t n)
theorem look_keep (t : List (Nat × C)) : ∀ (keep : List Nat) (n : Nat), look (keepT keep t) n = look t n ∨ look (keepT keep t) n = .dead
  | [], n => .inr rfl
  | k :: keep, n => by
    simp only [keepT, List.map_cons, look]
    by_cases e : k = n
    · rw [if_pos e, e]; exact .inl rfl
    · rw [if_neg e]; exact look_keep t keep n
theorem Reads.keepT {M : Mem} {a : Act} {t : List (Nat × C)} (h : Reads M a t) (keep : List Nat) : Reads M a (keepT keep t) := by
  intro n
  rcases look_keep t keep n with e | e
  · rw [e]; exact h n
  · rw [e]; trivial

def thenQ (K : List (Nat × C) → List Blk → Prop) (Q : Post) : Post
  | .normal, t, H => K t H
  | x, t, H => Q x t H
def blockQ (id : Nat) (Q : Post) : Post
  | .exit id', t, H => if id' = id then Q .normal t H else Q (.exit id') t H
  | x, t, H => Q x t H
def Br (b : Bool) (f g : List (Nat × C) → List Blk → Prop) (t : List (Nat × C)) (H : List Blk) : Prop := if b = true then f t H else g t H
def brC (c : C) (f g : List (Nat × C) → List Blk → Prop) (t : List (Nat × C)) (H : List Blk) : Prop :=
  match c with
  | .v (.bool b) => Br b f g t H
  | _ => False
def resQ (r : Option (List (Nat × C) × List Blk)) (keep : List Nat) (Q : Post) : Prop :=
  match r with
  | some (t, H) => Q .normal (keepT keep t) H
  | none => False

/-- The code's own reckoning. Loops are left to their rule. -/
def awc (X : Ctx) : Code → Post → List (Nat × C) → List Blk → Prop
  | .skip, Q => Q .normal
  | .region id ops draw, Q => fun t H => resQ (if draw = true then evOpsD X.P X.E X.G ops (X.hd id) 0 ops.toList t H else evOps X.P X.E X.G ops ops.toList t H) X.keep Q
  | .seq x y, Q => awc X x (thenQ (awc X y Q) Q)
  | .cond c x y, Q => fun t H => brC (opC X.G t c) (awc X x Q) (awc X y Q) t H
  | .block id c, Q => awc X c (blockQ id Q)
  | .loop c, Q => Aw X (.loop c) Q
  | .exit id, Q => Q (.exit id)
  | .ret, Q => Q .ret
  | _, _ => fun _ _ => False

def codeB (X : Ctx) : Code → Bool
  | .region id ops draw => ops.toList.all (dstOK X.nt) && (!draw || regB X.E (X.hd id) ops)
  | .seq x y => codeB X x && codeB X y
  | .cond _ x y => codeB X x && codeB X y
  | .block _ c => codeB X c
  | _ => true

theorem awc_sound {X : Ctx} (hX : X.OK) : ∀ (c : Code) (Q : Post) (t : List (Nat × C)) (H : List Blk), codeB X c = true → awc X c Q t H → Aw X c Q t H
  | .skip, Q, t, H, _, h => fun M a ha => wp_skip ⟨M, t, H, rfl, TransU.refl _ M, ha, h⟩
  | .exit id, Q, t, H, _, h => fun M a ha => wp_exit ⟨M, t, H, rfl, TransU.refl _ M, ha, h⟩
  | .ret, Q, t, H, _, h => fun M a ha => wp_ret ⟨M, t, H, rfl, TransU.refl _ M, ha, h⟩
  | .loop c, Q, t, H, _, h => h
  | .seq x y, Q, t, H, hb, h => fun M a ha => by
    simp only [codeB, Bool.and_eq_true] at hb
    refine wp_seq (wp_mono (awc_sound hX x _ t H hb.1 h M a ha) ?_)
    rintro e a' w' ⟨M', t', H', rfl, ht, ha', hq⟩
    cases e with
    | normal =>
      refine wp_mono (awc_sound hX y Q t' H' hb.2 hq M' a' ha') ?_
      rintro e a'' w'' ⟨M'', t'', H'', rfl, ht', ha'', hq'⟩
      exact ⟨M'', t'', H'', rfl, ht.trans ht', ha'', hq'⟩
    | _ => exact ⟨M', t', H', rfl, ht, ha', hq⟩
  | .cond c x y, Q, t, H, hb, h => fun M a ha => by
    simp only [codeB, Bool.and_eq_true] at hb
    simp only [awc, brC] at h
    split at h
    · rename_i b hc
      have hv := opC_read ha.gok ha.reads c
      rw [hc] at hv
      refine wp_cond hv.1 ?_
      unfold Br at h
      cases b with
      | true => exact awc_sound hX x Q t H hb.1 (by simpa using h) M a ha
      | false => exact awc_sound hX y Q t H hb.2 (by simpa using h) M a ha
    · exact h.elim
  | .block id c, Q, t, H, hb, h => fun M a ha => by
    refine wp_block (wp_mono (awc_sound hX c _ t H hb h M a ha) ?_)
    rintro e a' w' ⟨M', t', H', rfl, ht, ha', hq⟩
    cases e with
    | exit id' =>
      simp only [blockQ] at hq
      simp only [Exit.inBlock]
      split at hq
      · rename_i hi
        rw [if_pos hi]
        exact ⟨M', t', H', rfl, ht, ha', hq⟩
      · rename_i hi
        rw [if_neg hi]
        exact ⟨M', t', H', rfl, ht, ha', hq⟩
    | _ => exact ⟨M', t', H', rfl, ht, ha', hq⟩
  | .region id ops draw, Q, t, H, hb, h => fun M a ha => by
    simp only [codeB, Bool.and_eq_true] at hb
    simp only [awc] at h
    have fin : ∀ t' H', Q .normal (keepT X.keep t') H' → ∀ M' a', At X.G X.nt M' a' t' H' → Trans M M' → Q.lift X M .normal a' M'.w := fun t' H' hq M' a' ha' ht =>
      ⟨M', keepT X.keep t', H', rfl, ht.u _, ⟨ha'.rep, ha'.gok, ha'.hH, ha'.reads.keepT _, ha'.size, ha'.defers⟩, hq⟩
    cases draw with
    | true =>
      simp only [if_true] at h
      unfold resQ at h
      split at h
      · rename_i t' H' hev
        exact region_draw hX.mixed hX.env (by simpa using hb.2) hb.1 ha hev (fin t' H' h)
      · exact h.elim
    | false =>
      simp only [Bool.false_eq_true, if_false] at h
      unfold resQ at h
      split at h
      · rename_i t' H' hev
        exact region_plain hX.env ha hb.1 hev (fin t' H' h)
      · exact h.elim
  | .rangeFunc _ _ _ _, _, _, _, _, h => h.elim
  | .scope _, _, _, _, _, h => h.elim
  | .label _, _, _, _, _, h => h.elim
  | .goto _, _, _, _, _, h => h.elim
  | .refuse _, _, _, _, _, h => h.elim

/-! ### loops -/

theorem wp_loop_n {P : Program} {c : Code} {Q : Exit → Act → World → Prop} (L : Nat → Act → World → Prop) (round : ∀ n a w, L n a w → c.wp P (Exit.then (fun a' w' => ∃ m, m < n ∧ L m a' w') Q) a w) (n : Nat) (a : Act) (w : World) (h : L n a w) : (Code.loop c).wp P Q a w := by
  intro b k cs
  have key : ∀ n a w, L n a w → ∃ e a' w', Q e a' w' ∧ Arrives P (lone (b.at a (.code c :: .inLoop c :: k)) cs w) b k cs e a' w' := by
    intro n
    induction n using Nat.strongRecOn with
    | _ n ih =>
      intro a w hI
      obtain ⟨e, a₁, w₁, hq, harr⟩ := round n a w hI b (.inLoop c :: k) cs
      cases e with
      | normal =>
        obtain ⟨m, hlt, hI₁⟩ := hq
        obtain ⟨e₂, a₂, w₂, hq₂, harr₂⟩ := ih m hlt a₁ w₁ hI₁
        exact ⟨e₂, a₂, w₂, hq₂, .of_steps (Steps.trans harr (.one step_inLoop)) harr₂⟩
      | exit id => exact ⟨_, a₁, w₁, hq, .pass (x := .inLoop c) rfl (fun _ _ => .inl (by simp)) harr⟩
      | goto l => exact ⟨_, a₁, w₁, hq, .pass (x := .inLoop c) rfl (fun _ _ => .inl (by simp)) harr⟩
      | ret => exact ⟨_, a₁, w₁, hq, .pass (x := .inLoop c) rfl (fun _ _ => .inl (by simp)) harr⟩
      | panic ch => exact ⟨_, a₁, w₁, hq, .pass (x := .inLoop c) rfl (fun _ _ => .inl (by simp)) harr⟩
      | outgrown => exact ⟨_, a₁, w₁, hq, .pass (x := .inLoop c) rfl (fun _ _ => .inl (by simp)) harr⟩
  obtain ⟨e, a', w', hq, harr⟩ := key n a w h
  exact ⟨e, a', w', hq, .of_steps (.one step_loop) harr⟩

theorem aw_loop {X : Ctx} {c : Code} {Q : Post} (I : Nat → List (Nat × C) → List Blk → Prop) (round : ∀ n t H, I n t H → Aw X c (thenQ (fun t' H' => ∃ m, m < n ∧ I m t' H') Q) t H) {n : Nat} {t : List (Nat × C)} {H : List Blk} (h : I n t H) : Aw X (.loop c) Q t H := by
  intro M a ha
  refine wp_loop_n (fun n a' w' => ∃ M' t' H', M'.w = w' ∧ TransU X.m M M' ∧ At X.G X.nt M' a' t' H' ∧ I n t' H') ?_ n a M.w ⟨M, t, H, rfl, TransU.refl _ M, ha, h⟩
  rintro n a' w' ⟨M', t', H', rfl, ht, ha', hi⟩
  refine wp_mono (round n t' H' hi M' a' ha') ?_
  rintro e a'' w'' ⟨M'', t'', H'', rfl, ht', ha'', hq⟩
  cases e with
  | normal =>
    obtain ⟨m, hm, hI⟩ := hq
    exact ⟨m, hm, M'', t'', H'', rfl, ht.trans ht', ha'', hI⟩
  | _ => exact ⟨M'', t'', H'', rfl, ht.trans ht', ha'', hq⟩

/-! ## Forgetting blocks -/

def belP (m : Nat) : C → Bool
  | .ptr n _ _ _ => decide (n < m)
  | .own n _ _ => decide (n < m)
  | _ => true
def belC (m : Nat) : C → Bool
  | .fn _ caps => caps.all (belP m)
  | c => belP m c
def belA (m : Nat) : C → Bool
  | .agg cs => cs.all (belC m)
  | c => belC m c
def belV (m : Nat) : C → Bool
  | .tup cs => cs.all (belA m)
  | c => belA m c
def belH (m : Nat) (H : List Blk) : Bool := (H.take m).all fun bl => bl.row || bl.rows.all (fun r => r.all (belC m))

def Mem.cut (M : Mem) (m : Nat) : Mem := { M with H := M.H.take m }
theorem cut_get {M : Mem} {m n : Nat} {bl : Blk} : (M.cut m).H[n]? = some bl ↔ n < m ∧ M.H[n]? = some bl := by
  simp only [Mem.cut, List.getElem?_take]
  constructor
  · intro h
    split at h
    · exact ⟨by assumption, h⟩
    · cases h
  · rintro ⟨h1, h2⟩
    rw [if_pos h1]; exact h2
theorem cut_S {M : Mem} {m b o : Nat} (h : M.S b o) : (M.cut m).S b o := by
  rcases h with h | ⟨h1, h2, h3⟩
  · exact .inl h
  · exact .inr ⟨h1, h2, fun n bl hn => h3 n bl (cut_get.1 hn).2⟩
theorem cut_rd {M : Mem} {m : Nat} {v : Value} {c : C} (h : Rd0 M.S M.w v c) : Rd0 (M.cut m).S (M.cut m).w v c := h.keep fun b o hs => ⟨cut_S hs, fun _ hu => hu⟩
theorem cut_rp {M : Mem} {m : Nat} {v : Value} {c : C} (h : Rp M v c) (hb : belP m c = true) : Rp (M.cut m) v c := by
  cases c with
  | v x => exact h
  | sl k rows => exact cut_rd h
  | ip cs =>
    obtain ⟨b, off, hv, hc⟩ := h
    refine ⟨b, off, hv, fun i c hi => ?_⟩
    obtain ⟨hT, u, hu, hr⟩ := hc i c hi
    exact ⟨hT.imp cut_S id, u, hu, cut_rd hr⟩
  | ptr n g i off =>
    obtain ⟨bl, hbl, h1, h2⟩ := h
    exact ⟨bl, cut_get.2 ⟨by simpa [belP] using hb, hbl⟩, h1, h2⟩
  | own n g len =>
    obtain ⟨bl, hbl, h1, h2⟩ := h
    exact ⟨bl, cut_get.2 ⟨by simpa [belP] using hb, hbl⟩, h1, h2⟩
  | dead => trivial
  | _ => exact h.elim
theorem cut_rc {M : Mem} {m : Nat} {v : Value} {c : C} (h : Rc M v c) (hb : belC m c = true) : Rc (M.cut m) v c := by
  cases c with
  | fn f caps =>
    obtain ⟨vs, h1, h2, h3⟩ := h
    exact ⟨vs, h1, h2, fun i c hi => cut_rp (h3 i c hi) (List.all_eq_true.1 hb c (List.mem_of_getElem? hi))⟩
  | v x => exact cut_rp (M := M) (m := m) (c := .v x) h hb
  | sl k rows => exact cut_rp (c := .sl k rows) h hb
  | ip x => exact cut_rp (c := .ip x) h hb
  | ptr n g i off => exact cut_rp (c := .ptr n g i off) h hb
  | own n g len => exact cut_rp (c := .own n g len) h hb
  | dead => trivial
  | _ => exact h.elim
theorem cut_ra {M : Mem} {m : Nat} {v : Value} {c : C} (h : Ra M v c) (hb : belA m c = true) : Ra (M.cut m) v c := by
  cases c with
  | agg cs =>
    obtain ⟨vs, h1, h2, h3⟩ := h
    exact ⟨vs, h1, h2, fun i c hi => cut_rc (h3 i c hi) (List.all_eq_true.1 hb c (List.mem_of_getElem? hi))⟩
  | v x => exact cut_rc (M := M) (m := m) (c := .v x) h hb
  | sl k rows => exact cut_rc (c := .sl k rows) h hb
  | ip x => exact cut_rc (c := .ip x) h hb
  | ptr n g i off => exact cut_rc (c := .ptr n g i off) h hb
  | own n g len => exact cut_rc (c := .own n g len) h hb
  | fn f caps => exact cut_rc (c := .fn f caps) h hb
  | dead => trivial
  | _ => exact h.elim
theorem cut_rv {M : Mem} {m : Nat} {v : Value} {c : C} (h : Rv M v c) (hb : belV m c = true) : Rv (M.cut m) v c := by
  cases c with
  | tup cs =>
    obtain ⟨vs, h1, h2, h3⟩ := h
    exact ⟨vs, h1, h2, fun i c hi => cut_ra (h3 i c hi) (List.all_eq_true.1 hb c (List.mem_of_getElem? hi))⟩
  | v x => exact cut_ra (M := M) (m := m) (c := .v x) h hb
  | sl k rows => exact cut_ra (c := .sl k rows) h hb
  | ip x => exact cut_ra (c := .ip x) h hb
  | ptr n g i off => exact cut_ra (c := .ptr n g i off) h hb
  | own n g len => exact cut_ra (c := .own n g len) h hb
  | fn f caps => exact cut_ra (c := .fn f caps) h hb
  | agg cs => exact cut_ra (c := .agg cs) h hb
  | dead => trivial
theorem cut_rep {M : Mem} (hM : Rep M) {m : Nat} (hb : belH m M.H = true) : Rep (M.cut m) := by
  refine ⟨hM.below, hM.hB, fun n bl hn hnl => ?_, fun n bl hn hnl => hM.nil n bl (cut_get.1 hn).2 hnl, fun n n' bn bm hn hm h1 h2 he => hM.inj n n' bn bm (cut_get.1 hn).2 (cut_get.1 hm).2 h1 h2 he⟩
  obtain ⟨hlt, hn'⟩ := cut_get.1 hn
  obtain ⟨cur, cap, hk⟩ := hM.blk n bl hn' hnl
  have hmem : bl ∈ M.H.take m := List.mem_of_getElem? hn
  have hok := List.all_eq_true.1 hb bl hmem
  refine ⟨cur, cap, hk.base, hk.heap, hk.size, hk.len, hk.cap, hk.kk, fun i j r c hi hj => ?_⟩
  have := hk.cells i j r c hi hj
  split
  · rename_i hr; rw [if_pos hr] at this; exact cut_rd this
  · rename_i hr
    rw [if_neg hr] at this
    have hr' : bl.row = false := by simpa using hr
    rw [hr', Bool.false_or] at hok
    exact cut_rc this (List.all_eq_true.1 (List.all_eq_true.1 hok r (List.mem_of_getElem? hi)) c (List.mem_of_getElem? hj))
theorem cut_tr {M : Mem} {m k : Nat} (h : k ≤ m) : TransU k M (M.cut m) :=
  ⟨rfl, rfl, rfl, rfl, fun b o hs => ⟨cut_S hs, fun _ hu => hu⟩, fun b o hs => ⟨hs.imp cut_S id, fun _ hu => hu⟩, fun n bl hn hb => ⟨bl, cut_get.2 ⟨by omega, hb⟩, Nat.le_refl _, fun _ => ⟨rfl, rfl, rfl, fun _ => rfl, rfl, fun _ cur hc => ⟨cur, hc, rfl⟩⟩⟩⟩
theorem cut_gok {G : GT} {M : Mem} {m : Nat} (h : GOK G M) : GOK G (M.cut m) := ⟨fun g cs hg => cut_rp (h.tab g cs hg) rfl, h.inv, h.bd⟩

/-- Of the temporaries 'keep' stay, of the blocks the first m. -/
def forgetB (keep : List Nat) (m : Nat) (t : List (Nat × C)) (H : List Blk) : Bool := keep.all (fun n => belV m (look t n)) && belH m H
theorem at_forget {G : GT} {nt : Nat} {M : Mem} {a : Act} {t : List (Nat × C)} {H : List Blk} (h : At G nt M a t H) {keep : List Nat} {m : Nat} (hb : forgetB keep m t H = true) : At G nt (M.cut m) a (keepT keep t) (H.take m) := by
  simp only [forgetB, Bool.and_eq_true] at hb
  refine ⟨cut_rep h.rep (by rw [h.hH]; exact hb.2), cut_gok h.gok, by simp [Mem.cut, h.hH], fun n => ?_, h.size, h.defers⟩
  have key : ∀ (ks : List Nat), ks.all (fun n => belV m (look t n)) = true → Rv (M.cut m) (a.tmps.getD n undef) (look (keepT ks t) n) := by
    intro ks
    induction ks with
    | nil => intro _; trivial
    | cons k ks ih =>
      intro hk
      simp only [List.all_cons, Bool.and_eq_true] at hk
      simp only [keepT, List.map_cons, look]
      by_cases e : k = n
      · subst e; rw [if_pos rfl]; exact cut_rv (h.reads k) hk.1
      · rw [if_neg e]; exact ih hk.2
  exact key keep hb.1
theorem aw_forget {X : Ctx} (keep : List Nat) (m : Nat) (hm : X.m ≤ m) {c : Code} {Q : Post} {t : List (Nat × C)} {H : List Blk} (hb : forgetB keep m t H = true) (h : Aw X c Q (keepT keep t) (H.take m)) : Aw X c Q t H := fun M a ha =>
  wp_mono (h (M.cut m) a (at_forget ha hb)) (by
    rintro e a' w' ⟨M', t', H', rfl, ht, ha', hq⟩
    exact ⟨M', t', H', rfl, (cut_tr hm).trans ht, ha', hq⟩)

/-! ### a nil slice that will be appended to -/

theorem aw_ghost {X : Ctx} (x : Nat) (e : TypeId) (k : Nat) {c : Code} {Q : Post} {t : List (Nat × C)} {H : List Blk} (hx : look t x = .sl true []) (h : Aw X c Q ((x, .own H.length 0 0) :: t) (H ++ [ghostB e k])) : Aw X c Q t H := fun M a ha => by
  obtain ⟨hm, hr⟩ := ghost_rep ha.rep e k
  have hat : At X.G X.nt (M.newed (ghostB e k) M.w) a ((x, .own H.length 0 0) :: t) (H ++ [ghostB e k]) := by
    refine ⟨hm.rep, ha.gok.keep hm.tr, by rw [hm.H, ha.hH], fun n => ?_, ha.size, ha.defers⟩
    simp only [look]
    by_cases en : x = n
    · subst en
      rw [if_pos rfl]
      have := ha.reads x
      rw [hx] at this
      rw [sl_nil_val this, ← ha.hH]
      exact hr
    · rw [if_neg en]; exact (ha.reads n).keep hm.tr
  refine wp_mono (h (M.newed (ghostB e k) M.w) a hat) ?_
  rintro e' a' w' ⟨M', t', H', rfl, ht, ha', hq⟩
  exact ⟨M', t', H', rfl, (hm.tr.u _).trans ht, ha', hq⟩
theorem aw_weak {X : Ctx} {c : Code} {Q Q' : Post} {t : List (Nat × C)} {H : List Blk} (h : Aw X c Q t H) (hq : ∀ x t H, Q x t H → Q' x t H) : Aw X c Q' t H := fun M a ha =>
  wp_mono (h M a ha) (by
    rintro e a' w' ⟨M', t', H', rfl, ht, ha', hq'⟩
    exact ⟨M', t', H', rfl, ht, ha', hq _ _ _ hq'⟩)

/-! ## Functions -/

def resOne (P : Program) (t : List (Nat × C)) (H : List Blk) : ResultVar → Option C
  | .tmp n => some (look t n)
  | .cell x ty => match look t x with
    | .ip cs => evLoad P ty cs
    | .ptr n g i off => (ptrCells H n g i off).bind (evLoad P ty)
    | _ => none
def isTup : C → Bool
  | .tup _ => true
  | _ => false
def packC : List C → Option C
  | [c] => some c
  | cs => if cs.all (fun c => !isTup c) = true then some (.tup cs) else none
def resAll (P : Program) (t : List (Nat × C)) (H : List Blk) : List ResultVar → Option (List C)
  | [] => some []
  | r :: rs => (resOne P t H r).bind fun c => (resAll P t H rs).bind fun cs => some (c :: cs)
def resF (tmps : Array Value) : ResultVar → Sem Value
  | .tmp t => pure (tmps.getD t undef)
  | .cell x ty => do loadVar ty (← asAddr (tmps.getD x undef))
theorem results_eq (fn : Func) (tmps : Array Value) : results fn tmps = (do let vs ← fn.results.mapM (resF tmps); pure (if h : vs.size = 1 then vs[0] else .tuple vs)) := rfl
theorem res_one {P : Program} {G : GT} {nt : Nat} {M : Mem} {a : Act} {t : List (Nat × C)} {H : List Blk} (h : At G nt M a t H) {r : ResultVar} {c : C} (hr : resOne P t H r = some c) :
    ∃ v, (resF a.tmps r).run P M.w = .ok v M.w ∧ Rv M v c := by
  cases r with
  | tmp n => simp [resOne] at hr; subst hr; exact ⟨_, rfl, h.reads n⟩
  | cell x ty =>
    simp only [resOne] at hr
    have hx := h.reads x
    split at hr
    · rename_i cs hc
      rw [hc] at hx
      obtain ⟨b, off, hv, hcc⟩ := ip_cells hx
      obtain ⟨u, hu, hru⟩ := load_cells (P := P) hcc hr
      refine ⟨u, ?_, hru⟩
      simp only [resF, hv, asAddr, Sem.run_bind, Sem.run_pure, Result.andThen_ok, hu]
    · rename_i n g i off hc
      rw [hc] at hx
      cases hp : ptrCells H n g i off with
      | none => rw [hp] at hr; simp at hr
      | some cs =>
        rw [hp] at hr
        obtain ⟨b, o, hv, hcc⟩ := ptr_cells h.rep hx (by rw [h.hH]; exact hp)
        obtain ⟨u, hu, hru⟩ := load_cells (P := P) hcc hr
        refine ⟨u, ?_, hru⟩
        simp only [resF, hv, asAddr, Sem.run_bind, Sem.run_pure, Result.andThen_ok, hu]
    · cases hr
theorem res_all {P : Program} {G : GT} {nt : Nat} {M : Mem} {a : Act} {t : List (Nat × C)} {H : List Blk} (h : At G nt M a t H) : ∀ (rs : List ResultVar) (cs : List C), resAll P t H rs = some cs →
    ∃ vs : List Value, (rs.mapM (resF a.tmps)).run P M.w = .ok vs M.w ∧ vs.length = cs.length ∧ ∀ (i : Nat) (c : C), cs[i]? = some c → Rv M (vs.getD i undef) c
  | [], cs, hr => by
    simp [resAll] at hr; subst hr
    exact ⟨[], rfl, rfl, fun i c hi => by simp at hi⟩
  | r :: rs, cs, hr => by
    simp only [resAll, Option.bind_eq_some_iff, Option.some.injEq] at hr
    obtain ⟨c, hc, cs', hcs, rfl⟩ := hr
    obtain ⟨v, hv, hvr⟩ := res_one h hc
    obtain ⟨vs, hvs, hl, hg⟩ := res_all h rs cs' hcs
    refine ⟨v :: vs, ?_, by simp [hl], fun i c hi => ?_⟩
    · simp only [List.mapM_cons, Sem.run_bind]
      rw [hv]
      simp only [Result.andThen_ok]
      rw [hvs]
      rfl
    · cases i with
      | zero => simp at hi; subst hi; simpa using hvr
      | succ i => simp at hi; simpa using hg i c hi
theorem ra_of {M : Mem} {v : Value} {c : C} (h : Rv M v c) (ht : isTup c = false) : Ra M v c := by cases c <;> first | exact h | cases ht
theorem res_run {P : Program} {G : GT} {nt : Nat} {M : Mem} {a : Act} {t : List (Nat × C)} {H : List Blk} (h : At G nt M a t H) {fn : Func} {cs : List C} {c : C} (hr : resAll P t H fn.results.toList = some cs) (hp : packC cs = some c) : ∃ v, (results fn a.tmps).run P M.w = .ok v M.w ∧ Rv M v c := by
  obtain ⟨vs, hvs, hl, hg⟩ := res_all h _ _ hr
  have h2 : (fn.results.mapM (resF a.tmps)).run P M.w = .ok vs.toArray M.w := by
    rw [Array.mapM_eq_mapM_toList]
    simp [hvs]
  have hrun : (results fn a.tmps).run P M.w = .ok (if h : vs.toArray.size = 1 then vs.toArray[0] else .tuple vs.toArray) M.w := by
    rw [results_eq, Sem.run_bind, h2]
    rfl
  refine ⟨_, hrun, ?_⟩
  unfold packC at hp
  split at hp
  · rename_i c0
    simp at hp; subst hp
    have hl1 : vs.length = 1 := by simpa using hl
    have := hg 0 c0 (by simp)
    rw [dif_pos (by simpa using hl1)]
    have hlt : 0 < vs.length := by omega
    simpa [List.getD, List.getElem?_eq_getElem hlt] using this
  · rename_i hne
    split at hp
    · rename_i ht
      simp at hp; subst hp
      have hn1 : vs.length ≠ 1 := by
        rw [hl]
        intro h1
        obtain ⟨x, hx⟩ := List.length_eq_one_iff.1 h1
        exact hne x hx
      rw [dif_neg (by simpa using hn1)]
      refine ⟨vs.toArray, rfl, by simp [hl], fun i c hi => ?_⟩
      have h1 := hg i c hi
      have h3 := List.all_eq_true.1 ht c (List.mem_of_getElem? hi)
      have h4 : vs.toArray.getD i undef = vs.getD i undef := by simp [Array.getD_eq_getD_getElem?, List.getD]
      rw [h4]
      exact ra_of h1 (by simpa using h3)
    · cases hp

theorem enters_of {P : Program} {f : FuncId} {fn : Func} {c : Code} (hf : P.funcs[f]? = some fn) (hb : fn.body = some c) (hn : (fn.name == "runtime.NumGoroutine") = false) : EntersAt P f := by
  intro args w
  have hn' : ¬ fn.name = "runtime.NumGoroutine" := by simpa using hn
  simp [callFunc, program, hf, hb, hn', Sem.run, Sem.run_bind, Result.andThen]

theorem clean_move {M M' : Mem} (hS : ∀ b o, M.S b o → M'.S b o ∧ ∀ u, M.w.cell? ⟨b, o, none⟩ = some u → M'.w.cell? ⟨b, o, none⟩ = some u) {v : Value} {r : C} (hr : Rv M v r) (hc : r.clean = true) : Rv M' v r := by
  have hp : ∀ {v : Value} {c : C}, c.deep = true → Rc M v c → Rc M' v c := by
    intro v c hd h
    exact Rd0.rc (M := M') ((deep_rd h hd).keep hS)
  have ha : ∀ {v : Value} {c : C}, c.cleanA = true → Ra M v c → Ra M' v c := by
    intro v c hd h
    cases c with
    | agg cs =>
      obtain ⟨vs, h1, h2, h3⟩ := h
      exact ⟨vs, h1, h2, fun i c hi => hp (List.all_eq_true.1 hd c (List.mem_of_getElem? hi)) (h3 i c hi)⟩
    | v x => exact h
    | sl k rows => exact hp (c := .sl k rows) rfl h
    | _ => cases hd
  cases r with
  | tup cs =>
    obtain ⟨vs, h1, h2, h3⟩ := hr
    exact ⟨vs, h1, h2, fun i c hi => ha (List.all_eq_true.1 hc c (List.mem_of_getElem? hi)) (h3 i c hi)⟩
  | agg cs => exact ha (c := .agg cs) hc hr
  | v x => exact hr
  | sl k rows => exact ha (c := .sl k rows) rfl hr
  | _ => cases hc

/-! ### what is handed back -/

def fin0 (H : List Blk) : C → Option C
  | .v x => some (.v x)
  | .sl k rows => some (.sl k rows)
  | .own n g len => (H[n]?).bind fun bl => if bl.gen = g ∧ (bl.row || bl.rows.all (fun r => r.all C.deep)) = true then some (.sl bl.nl bl.rows) else none
  | _ => none
def fin1 (H : List Blk) : C → Option C
  | .own n g len => (H[n]?).bind fun bl => if bl.gen = g then (if bl.row = true then some (.sl bl.nl bl.rows) else (bl.rows.mapM (fun (r : List C) => r.mapM (fin0 H))).map (C.sl bl.nl)) else none
  | c => fin0 H c
def finA (H : List Blk) : C → Option C
  | .agg cs => (cs.mapM (fin1 H)).map .agg
  | c => fin1 H c
def finV (H : List Blk) : C → Option C
  | .tup cs => (cs.mapM (finA H)).map .tup
  | c => finA H c

theorem fin_S {M : Mem} (hM : Rep M) {n : Nat} {bl : Blk} (hb : M.H[n]? = some bl) (hnl : bl.nl = false) (o : Nat) : (M.cut 0).S (M.β n) o := by
  obtain ⟨cur, cap, hk⟩ := hM.blk n bl hb hnl
  exact .inr ⟨hk.base, hM.lt hb hnl, fun m bm hm => by simp [Mem.cut] at hm⟩
/-- A row of one's own, read for good, if its cells can be. -/
theorem own_fin {M : Mem} (hM : Rep M) {v : Value} {n g len : Nat} (h : Rp M v (.own n g len)) {bl : Blk} (hb : M.H[n]? = some bl) (hg : bl.gen = g) {rows : List (List C)} (hl : rows.length = bl.rows.length)
    (hc : ∀ (i j : Nat) (r r' : List C) (c' : C), bl.rows[i]? = some r → rows[i]? = some r' → r'[j]? = some c' → ∃ c, r[j]? = some c ∧ ∀ u, (if bl.row = true then Rd0 M.S M.w u c else Rc M u c) → Rd0 (M.cut 0).S M.w u c')
    (hk' : ∀ r ∈ rows, r.length = bl.k) : Rp (M.cut 0) v (.sl bl.nl rows) := by
  by_cases hnl : bl.nl = true
  · rw [own_nil h hb hg hnl, hnl]
    have : rows = [] := List.eq_nil_of_length_eq_zero (by rw [hl, hM.nil n bl hb hnl]; rfl)
    rw [this]
    exact Rd0.nil
  · have hnl' : bl.nl = false := by simpa using hnl
    rw [hnl']
    obtain ⟨bl', hb', hle, h2⟩ := h
    rw [hb] at hb'; cases hb'
    obtain ⟨hlr, h2⟩ := h2 hg
    rw [if_neg hnl] at h2
    obtain ⟨cap, cur, hh, hs, hlc, hcm, rfl⟩ := h2
    obtain ⟨cur', cap', hk⟩ := hM.blk n bl hb hnl'
    have he : cur' = cur := by have := hk.heap; rw [hh] at this; cases this; rfl
    subst he
    refine Rd0.sl (M.β n) 0 len cap bl.k rows (fun i => cur'.getD i undef) (by omega) (Nat.le_trans hlc hcm) hlc hk' (fun i hi => ⟨fin_S hM hb hnl' _, ?_⟩) (fun i j r' c' hi hj => ?_)
    · have hi2 : i < cap * bl.k := Nat.lt_of_lt_of_le hi (Nat.mul_le_mul_right _ hlc)
      show M.w.cell? _ = _
      rw [Nat.zero_add, cell_of_row M.w (M.β n) i cur' bl.ty (0, 0) hh]
      have : i < cur'.size := by omega
      simp [Array.getD_eq_getD_getElem?, this]
    · have hil : i < bl.rows.length := by have := (List.getElem?_eq_some_iff.1 hi).1; omega
      obtain ⟨c, hc1, hc2⟩ := hc i j bl.rows[i] r' c' (List.getElem?_eq_getElem hil) hi hj
      exact hc2 _ (hk.cells i j _ c (List.getElem?_eq_getElem hil) hc1)
theorem fin0_read {M : Mem} (hM : Rep M) {v : Value} {c r : C} (h : Rc M v c) (hf : fin0 M.H c = some r) : Rd0 (M.cut 0).S M.w v r := by
  cases c with
  | v x => simp [fin0] at hf; subst hf; obtain ⟨rfl, h1⟩ := h; exact .v _ h1
  | sl k rows => simp [fin0] at hf; subst hf; exact cut_rd h
  | own n g len =>
    simp only [fin0] at hf
    obtain ⟨bl, hb, hle, hg⟩ := id h
    rw [hb] at hf
    simp only [Option.bind_some] at hf
    split at hf
    · rename_i hc
      simp at hf; subst hf
      have h1 := own_fin hM h hb hc.1 (rows := bl.rows) rfl (fun i j r r' c' hi hi' hj => by
        rw [hi] at hi'; cases hi'
        refine ⟨c', hj, fun u hu => ?_⟩
        split at hu
        · exact cut_rd hu
        · rename_i hrow
          have h3 := hc.2
          rw [show bl.row = false by simpa using hrow, Bool.false_or] at h3
          exact cut_rd (deep_rd hu (List.all_eq_true.1 (List.all_eq_true.1 h3 r (List.mem_of_getElem? hi)) c' (List.mem_of_getElem? hj)))) (fun r hr => by
        by_cases hnl : bl.nl = true
        · rw [hM.nil n bl hb hnl] at hr; cases hr
        · obtain ⟨cur, cap, hk⟩ := hM.blk n bl hb (by simpa using hnl)
          exact hk.kk r hr)
      exact h1
    · cases hf
  | _ => simp [fin0] at hf
theorem rd_rc {M M' : Mem} (hS : M'.S = M.S) (hw : M'.w = M.w) {v : Value} {c : C} (h : Rd0 M.S M.w v c) : Rc M' v c := by
  rw [← hS, ← hw] at h; exact h.rc
theorem fin1_read {M : Mem} (hM : Rep M) {v : Value} {c r : C} (h : Rc M v c) (hf : fin1 M.H c = some r) : Rc (M.cut 0) v r := by
  have base : ∀ {c : C}, Rc M v c → fin0 M.H c = some r → Rc (M.cut 0) v r := fun {c} h1 h2 => Rd0.rc (M := M.cut 0) (fin0_read hM h1 h2)
  cases c with
  | own n g len =>
    simp only [fin1] at hf
    obtain ⟨bl, hb, hle, hg⟩ := id h
    rw [hb] at hf
    simp only [Option.bind_some] at hf
    split at hf
    · rename_i hgen
      have hkk : ∀ r ∈ bl.rows, r.length = bl.k := fun r hr => by
        by_cases hnl : bl.nl = true
        · rw [hM.nil n bl hb hnl] at hr; cases hr
        · obtain ⟨cur, cap, hk⟩ := hM.blk n bl hb (by simpa using hnl)
          exact hk.kk r hr
      have toRc : ∀ {c : C}, Rp (M.cut 0) v c → Rc (M.cut 0) v c := fun {c} h => by cases c <;> first | exact h | exact h.elim
      split at hf
      · rename_i hrow
        simp at hf; subst hf
        refine toRc (own_fin hM h hb hgen (rows := bl.rows) rfl (fun i j r r' c' hi hi' hj => ?_) hkk)
        rw [hi] at hi'; cases hi'
        refine ⟨c', hj, fun u hu => ?_⟩
        rw [if_pos hrow] at hu
        exact cut_rd hu
      · rename_i hrow
        simp only [Option.map_eq_some_iff] at hf
        obtain ⟨rows, hrows, rfl⟩ := hf
        obtain ⟨h1, h2⟩ := mapM_get _ _ _ hrows
        refine toRc (own_fin hM h hb hgen (rows := rows) h1 (fun i j r r' c' hi hi' hj => ?_) (fun r' hr' => ?_))
        · obtain ⟨r'', hr1, hr2⟩ := h2 i r hi
          rw [hi'] at hr1; cases hr1
          obtain ⟨h3, h4⟩ := mapM_get _ _ _ hr2
          have hjl : j < r.length := by have := (List.getElem?_eq_some_iff.1 hj).1; omega
          obtain ⟨c'', hc1, hc2⟩ := h4 j r[j] (List.getElem?_eq_getElem hjl)
          rw [hj] at hc1; cases hc1
          refine ⟨r[j], List.getElem?_eq_getElem hjl, fun u hu => ?_⟩
          rw [if_neg hrow] at hu
          exact fin0_read hM hu hc2
        · obtain ⟨i, hi⟩ := List.mem_iff_getElem?.1 hr'
          have hil : i < bl.rows.length := by have := (List.getElem?_eq_some_iff.1 hi).1; omega
          obtain ⟨r'', hr1, hr2⟩ := h2 i bl.rows[i] (List.getElem?_eq_getElem hil)
          rw [hi] at hr1; cases hr1
          rw [(mapM_get _ _ _ hr2).1]
          exact hkk _ (List.getElem_mem hil)
    · cases hf
  | v x => exact base (c := .v x) h hf
  | sl k rows => exact base (c := .sl k rows) h hf
  | ip cs => simp [fin1, fin0] at hf
  | ptr n g i off => simp [fin1, fin0] at hf
  | fn f caps => simp [fin1, fin0] at hf
  | agg cs => simp [fin1, fin0] at hf
  | tup cs => simp [fin1, fin0] at hf
  | dead => simp [fin1, fin0] at hf
theorem finA_read {M : Mem} (hM : Rep M) {v : Value} {c r : C} (h : Ra M v c) (hf : finA M.H c = some r) : Ra (M.cut 0) v r := by
  have base : ∀ {c : C}, Rc M v c → fin1 M.H c = some r → Ra (M.cut 0) v r := fun {c} h1 h2 => by
    have := fin1_read hM h1 h2
    cases r <;> first | exact this | exact this.elim
  cases c with
  | agg cs =>
    simp only [finA, Option.map_eq_some_iff] at hf
    obtain ⟨l, hl, rfl⟩ := hf
    obtain ⟨vs, rfl, hs, hc⟩ := h
    obtain ⟨h1, h2⟩ := mapM_get _ _ _ hl
    refine ⟨vs, rfl, by omega, fun i c hi => ?_⟩
    have hil : i < cs.length := by have := (List.getElem?_eq_some_iff.1 hi).1; omega
    obtain ⟨b, hb, he⟩ := h2 i cs[i] (List.getElem?_eq_getElem hil)
    rw [hb] at hi; cases hi
    exact fin1_read hM (hc i cs[i] (List.getElem?_eq_getElem hil)) he
  | v x => exact base (c := .v x) h hf
  | sl k rows => exact base (c := .sl k rows) h hf
  | own n g len => exact base (c := .own n g len) h hf
  | ip cs => simp [finA, fin1, fin0] at hf
  | ptr n g i off => simp [finA, fin1, fin0] at hf
  | fn f caps => simp [finA, fin1, fin0] at hf
  | tup cs => simp [finA, fin1, fin0] at hf
  | dead => simp [finA, fin1, fin0] at hf
theorem finV_read {M : Mem} (hM : Rep M) {v : Value} {c r : C} (h : Rv M v c) (hf : finV M.H c = some r) : Rv (M.cut 0) v r := by
  have base : ∀ {c : C}, Ra M v c → finA M.H c = some r → Rv (M.cut 0) v r := fun {c} h1 h2 => by
    have := finA_read hM h1 h2
    cases r <;> first | exact this | exact this.elim
  cases c with
  | tup cs =>
    simp only [finV, Option.map_eq_some_iff] at hf
    obtain ⟨l, hl, rfl⟩ := hf
    obtain ⟨vs, rfl, hs, hc⟩ := h
    obtain ⟨h1, h2⟩ := mapM_get _ _ _ hl
    refine ⟨vs, rfl, by omega, fun i c hi => ?_⟩
    have hil : i < cs.length := by have := (List.getElem?_eq_some_iff.1 hi).1; omega
    obtain ⟨b, hb, he⟩ := h2 i cs[i] (List.getElem?_eq_getElem hil)
    rw [hb] at hi; cases hi
    exact finA_read hM (hc i cs[i] (List.getElem?_eq_getElem hil)) he
  | agg cs => exact base (c := .agg cs) h hf
  | v x => exact base (c := .v x) h hf
  | sl k rows => exact base (c := .sl k rows) h hf
  | own n g len => exact base (c := .own n g len) h hf
  | ip cs => simp [finV, finA, fin1, fin0] at hf
  | ptr n g i off => simp [finV, finA, fin1, fin0] at hf
  | fn f caps => simp [finV, finA, fin1, fin0] at hf
  | dead => simp [finV, finA, fin1, fin0] at hf

/-! ### a function's reckoning gives what it does -/

def argsT : Nat → List C → List (Nat × C)
  | _, [] => []
  | i, c :: cs => (i, c) :: argsT (i + 1) cs
theorem look_args : ∀ (cs : List C) (i n : Nat), look (argsT i cs) n = if i ≤ n then (cs[n - i]?).getD .dead else .dead
  | [], i, n => by simp [argsT, look]
  | c :: cs, i, n => by
    simp only [argsT, look]
    by_cases e : i = n
    · subst e; simp
    · rw [if_neg e, look_args cs (i + 1) n]
      by_cases h : i ≤ n
      · rw [if_pos h, if_pos (by omega)]
        rw [show n - i = (n - (i + 1)) + 1 by omega]
        simp
      · rw [if_neg h, if_neg (by omega)]
theorem at_entry {G : GT} {nt : Nat} {M : Mem} {vs : Array Value} {args : List C} (hM : Rep M) (hG : GOK G M) (hv : Rvs M vs args) (hl : args.length ≤ nt) : At G nt M { tmps := vs ++ Array.replicate (nt - vs.size) undef, defers := [] } (argsT 0 args) M.H := by
  refine ⟨hM, hG, rfl, fun n => ?_, by simp [hv.1]; omega, rfl⟩
  rw [look_args]
  simp only [Nat.zero_le, if_true, Nat.sub_zero]
  cases hn : args[n]? with
  | none => trivial
  | some c =>
    have h1 := hv.2 n c hn
    have hnl : n < vs.size := by have := (List.getElem?_eq_some_iff.1 hn).1; have := hv.1; omega
    rw [Array.getD_eq_getD_getElem?] at h1 ⊢
    rw [Array.getElem?_append_left hnl]
    exact h1

def retQ (P : Program) (rs : List ResultVar) (r : C) : Post := fun x t H => (x = .ret ∨ x = .normal) ∧ ((resAll P t H rs).bind fun cs => (packC cs).bind fun c => finV H c) = some r
theorem specP_of {X : Ctx} (hX : X.OK) (hm : X.m = 0) {f : FuncId} {fn : Func} {c : Code} (hf : X.P.funcs[f]? = some fn) (hb : fn.body = some c) (hn : (fn.name == "runtime.NumGoroutine") = false) (hnt : fn.ntmps = X.nt) (hcb : codeB X c = true) {F : List C → Option C}
    (h : ∀ args r, F args = some r → args.length ≤ X.nt ∧ r.clean = true ∧ ((∃ M vs, Rvs M vs args) → awc X c (retQ X.P fn.results.toList r) (argsT 0 args) [])) : SpecP X.P X.G f F := by
  intro args r hr
  obtain ⟨h1, h2, h3⟩ := h args r hr
  refine ⟨enters_of hf hb hn, h2, fun S0 T0 w vs hG hv => ?_⟩
  have hM := rep_entry S0 T0 w
  have hat := at_entry (nt := X.nt) hM hG hv h1
  have haw := awc_sound hX c _ _ _ hcb (h3 ⟨_, vs, hv⟩) _ _ hat
  refine calls_of_wp hf hb ?_
  rw [hnt]
  refine wp_mono haw ?_
  rintro e a' w' ⟨M', t', H', rfl, ht, ha', hx, hres⟩
  have hdone : a'.defers = [] ∧ ∃ v, (results fn a'.tmps).run X.P M'.w = .ok v M'.w ∧ ∃ v', Ending.returned v = Ending.returned v' ∧ Below w.heap.size w M'.w ∧ Rv ((Mem.entry S0 T0 w).later M'.w) v' r := by
    simp only [Option.bind_eq_some_iff] at hres
    obtain ⟨cs, hcs, cc, hcc, hfin⟩ := hres
    obtain ⟨v, hv1, hv2⟩ := res_run ha' hcs hcc
    rw [← ha'.hH] at hfin
    have hv3 := finV_read ha'.rep hv2 hfin
    have hw0 : M'.w0 = w := ht.w0
    have hB : M'.B = w.heap.size := ht.B
    have hS0 : M'.S0 = S0 := ht.S0
    refine ⟨ha'.defers, v, hv1, v, rfl, ?_, clean_move (M := M'.cut 0) (M' := (Mem.entry S0 T0 w).later M'.w) (fun b o hs => ⟨?_, fun _ hu => hu⟩) hv3 h2⟩
    · have := ha'.rep.below
      rw [hw0, hB] at this
      exact this
    · rcases hs with ⟨k1, k2⟩ | ⟨k1, k2, _⟩
      · have k1' : b < M'.B := k1
        have k2' : M'.S0 b o := k2
        rw [hB] at k1'
        rw [hS0] at k2'
        exact .inl ⟨k1', k2'⟩
      · have k1' : M'.B ≤ b := k1
        rw [hB] at k1'
        exact .inr ⟨k1', k2, fun n bl hn => by simp [Mem.entry, Mem.later] at hn⟩
  rcases hx with rfl | rfl
  · exact hdone
  · exact hdone

/-- A function that may write what it was handed: H' is what its blocks hold behind it, and the new ones that it hands back. -/
def retH (P : Program) (rs : List ResultVar) (r : C) (H' : List Blk) : Post := fun x t H => (x = .ret ∨ x = .normal) ∧ ((resAll P t H rs).bind packC) = some r ∧ H.take H'.length = H' ∧ belV H'.length r = true ∧ belH H'.length H = true
theorem specH_of {G : GT} {P : Program} {f : FuncId} {fn : Func} {c : Code} (hf : P.funcs[f]? = some fn) (hb : fn.body = some c) (hn : (fn.name == "runtime.NumGoroutine") = false) {X : Nat → Ctx} (hX : ∀ m, (X m).OK) (hXP : ∀ m, (X m).P = P ∧ (X m).G = G ∧ (X m).m = m ∧ (X m).nt = fn.ntmps) (hcb : ∀ m, codeB (X m) c = true) {F : List C → List Blk → Option (C × List Blk)}
    (h : ∀ args H r H', F args H = some (r, H') → args.length ≤ fn.ntmps ∧ H.length ≤ H'.length ∧ ((∃ M vs, M.H = H ∧ Rep M ∧ Rvs M vs args) → awc (X H.length) c (retH P fn.results.toList r H') (argsT 0 args) H)) : SpecH P G f F := by
  intro M args r H' hr
  refine ⟨enters_of hf hb hn, fun vs hM hG hv => ?_⟩
  obtain ⟨h1, h2, h3⟩ := h args M.H r H' hr
  obtain ⟨e1, e2, e3, e4⟩ := hXP M.H.length
  have hat := at_entry (nt := fn.ntmps) hM hG hv h1
  have haw := awc_sound (hX M.H.length) c _ _ _ (hcb _) (h3 ⟨M, vs, rfl, hM, hv⟩) M { tmps := vs ++ Array.replicate (fn.ntmps - vs.size) undef, defers := [] } (by rw [e2, e4]; exact hat)
  rw [e1] at haw
  refine calls_of_wp hf hb ?_
  refine wp_mono haw ?_
  rintro e a' w' ⟨M', t', H'', rfl, ht, ha', hx, hres, htake, hbv, hbh⟩
  rw [e2, e4] at ha'
  rw [e3] at ht
  have hdone : a'.defers = [] ∧ ∃ v, (results fn a'.tmps).run P M'.w = .ok v M'.w ∧ ∃ v' M'', Ending.returned v = Ending.returned v' ∧ Moved M M'' H' M'.w ∧ Rv M'' v' r := by
    simp only [Option.bind_eq_some_iff] at hres
    obtain ⟨cs, hcs, hcc⟩ := hres
    obtain ⟨v, hv1, hv2⟩ := res_run ha' hcs hcc
    have hbh' : belH H'.length M'.H = true := by rw [ha'.hH]; exact hbh
    refine ⟨ha'.defers, v, hv1, v, M'.cut H'.length, rfl, ⟨?_, rfl, cut_rep ha'.rep hbh', (ht.trans (cut_tr h2)).full⟩, cut_rv hv2 hbv⟩
    show M'.H.take H'.length = H'
    rw [ha'.hH]; exact htake
  rcases hx with rfl | rfl
  · exact hdone
  · exact hdone

/-! ## How a reckoning is spelled out -/

/-- Said without 'rfl', so that a proof bears each step. -/
theorem ob_some {α β : Type} (a : α) (f : α → Option β) : (some a).bind f = f a := by
  cases h : f a <;> simp [h]
theorem ob_none {α β : Type} (f : α → Option β) : (none : Option α).bind f = none := by
  simp
theorem om_some {α β : Type} (a : α) (f : α → β) : (some a).map f = some (f a) := by
  simp
theorem om_none {α β : Type} (f : α → β) : (none : Option α).map f = none := by
  simp
/-- The walk looks at the first operand alone. -/
def obind {α β : Type} (x : Option α) (f : α → Option β) : Option β := x.bind f
theorem obind_some {α β : Type} (a : α) (f : α → Option β) : obind (some a) f = f a := ob_some a f
theorem obind_none {α β : Type} (f : α → Option β) : obind (none : Option α) f = none := ob_none f
@[congr] theorem obind_congr {α β : Type} {x y : Option α} {f : α → Option β} (h : x = y) : obind x f = obind y f := by rw [h]
@[congr] theorem resQ_congr {r r' : Option (List (Nat × C) × List Blk)} {keep : List Nat} {Q : Post} (h : r = r') : resQ r keep Q = resQ r' keep Q := by rw [h]
@[congr] theorem Br_congr {b b' : Bool} {f g : List (Nat × C) → List Blk → Prop} {t : List (Nat × C)} {H : List Blk} (h : b = b') : Br b f g t H = Br b' f g t H := by rw [h]
@[congr] theorem brC_congr {c c' : C} {f g : List (Nat × C) → List Blk → Prop} {t : List (Nat × C)} {H : List Blk} (h : c = c') : brC c f g t H = brC c' f g t H := by rw [h]
section
variable {P : Program} {X : Ctx} {Q : Post} {t : List (Nat × C)} {H : List Blk}

theorem awc_skip : awc X .skip Q t H = Q .normal t H := (rfl)
theorem awc_region {id : Nat} {ops : Array Oper} : awc X (.region id ops false) Q t H = resQ (evOps X.P X.E X.G ops ops.toList t H) X.keep Q := (rfl)
theorem awc_regionD {id : Nat} {ops : Array Oper} : awc X (.region id ops true) Q t H = resQ (evOpsD X.P X.E X.G ops (X.hd id) 0 ops.toList t H) X.keep Q := (rfl)
theorem awc_seq {x y : Code} : awc X (.seq x y) Q t H = awc X x (thenQ (awc X y Q) Q) t H := (rfl)
theorem awc_cond {c : Operand} {x y : Code} : awc X (.cond c x y) Q t H = brC (opC X.G t c) (awc X x Q) (awc X y Q) t H := (rfl)
theorem awc_block {id : Nat} {c : Code} : awc X (.block id c) Q t H = awc X c (blockQ id Q) t H := (rfl)
theorem awc_loop {c : Code} : awc X (.loop c) Q t H = Aw X (.loop c) Q t H := (rfl)
theorem awc_exit {id : Nat} : awc X (.exit id) Q t H = Q (.exit id) t H := (rfl)
theorem awc_ret : awc X .ret Q t H = Q .ret t H := (rfl)
theorem thenQ_normal {K : List (Nat × C) → List Blk → Prop} : thenQ K Q .normal t H = K t H := (rfl)
theorem thenQ_ret {K : List (Nat × C) → List Blk → Prop} : thenQ K Q .ret t H = Q .ret t H := (rfl)
theorem thenQ_exit {K : List (Nat × C) → List Blk → Prop} {id : Nat} : thenQ K Q (.exit id) t H = Q (.exit id) t H := (rfl)
theorem blockQ_normal {id : Nat} : blockQ id Q .normal t H = Q .normal t H := (rfl)
theorem blockQ_ret {id : Nat} : blockQ id Q .ret t H = Q .ret t H := (rfl)
theorem blockQ_exit {id id' : Nat} : blockQ id Q (.exit id') t H = if id' = id then Q .normal t H else Q (.exit id') t H := (rfl)
theorem brC_bool {b : Bool} {f g : List (Nat × C) → List Blk → Prop} : brC (.v (.bool b)) f g t H = Br b f g t H := (rfl)
theorem Br_true {f g : List (Nat × C) → List Blk → Prop} : Br true f g t H = f t H := (rfl)
theorem Br_false {f g : List (Nat × C) → List Blk → Prop} : Br false f g t H = g t H := by simp [Br]
theorem Br_split {b : Bool} {f g : List (Nat × C) → List Blk → Prop} (h1 : b = true → f t H) (h2 : b = false → g t H) : Br b f g t H := by
  cases b
  · rw [Br_false]; exact h2 rfl
  · exact h1 rfl
theorem resQ_some {keep : List Nat} : resQ (some (t, H)) keep Q = Q .normal (keepT keep t) H := (rfl)
theorem keepT_nil : keepT [] t = [] := (rfl)
theorem keepT_cons {k : Nat} {ks : List Nat} : keepT (k :: ks) t = (k, look t k) :: keepT ks t := (rfl)
theorem look_nil {n : Nat} : look [] n = .dead := (rfl)
theorem look_cons {m n : Nat} {c : C} : look ((m, c) :: t) n = if m = n then c else look t n := (rfl)
theorem evOps_nil {E : Env} {G : GT} {ops : Array Oper} : evOps P E G ops [] t H = some (t, H) := (rfl)
theorem evOps_cons {E : Env} {G : GT} {ops : Array Oper} {o : Oper} {rest : List Oper} : evOps P E G ops (o :: rest) t H = obind (evG P E G ops H t o) fun r => evOps P E G ops rest (putT o.dst r.1 t) r.2 := (rfl)
theorem evOpsD_nil {E : Env} {G : GT} {ops : Array Oper} {hd : Nat → Bool} {i : Nat} : evOpsD P E G ops hd i [] t H = some (t, H) := (rfl)
theorem evOpsD_cons {E : Env} {G : GT} {ops : Array Oper} {hd : Nat → Bool} {i : Nat} {o : Oper} {rest : List Oper} : evOpsD P E G ops hd i (o :: rest) t H = obind (evGD P E G ops hd H t i o) fun r => evOpsD P E G ops hd (i + 1) rest (putT o.dst r.1 t) r.2 := (rfl)
theorem putT_some {d : Nat} {c : C} : putT (some d) c t = (d, c) :: t := (rfl)
theorem putT_none {c : C} : putT none c t = t := (rfl)
theorem opC_tmp {G : GT} {n : Nat} : opC G t (.tmp n) = look t n := (rfl)
theorem opC_func {G : GT} {f : FuncId} : opC G t (.func f) = .v (.func (.func f) #[] #[]) := (rfl)
theorem opC_int {G : GT} {k : IntKind} {n : Int} : opC G t (.const (.int k n)) = .v (.int k n) := (rfl)
theorem opC_bool {G : GT} {b : Bool} : opC G t (.const (.bool b)) = .v (.bool b) := (rfl)
theorem opC_string {G : GT} {s : ByteArray} : opC G t (.const (.string s)) = .v (.string s) := (rfl)
theorem opC_slice {G : GT} : opC G t (.const (.slice none 0 0)) = .sl true [] := (rfl)
theorem opC_global {G : GT} {g : Nat} : opC G t (.global g) = match G.tab g with | some cs => .ip cs | none => .v (.pointer (some ⟨g, 0, none⟩)) := (rfl)
theorem opC_agg {G : GT} {cs : Array Value} : opC G t (.const (.agg cs)) = if cs.all (·.oneCell') = true then .agg (cs.toList.map .v) else .dead := by
  by_cases h : cs.all (·.oneCell') = true <;> simp [opC, ofV, h]

/-! ### operations -/

def pickC : C → C → C → Option C
  | .v (.bool b), x, y => some (if b = true then x else y)
  | _, _, _ => none
def loadC (P : Program) (H : List Blk) (ty : TypeId) : C → Option C
  | .ip cs => evLoad P ty cs
  | .ptr n g i off => (ptrCells H n g i off).bind (evLoad P ty)
  | _ => none
def guardC (d : Option Nat) (t : List (Nat × C)) (w : Bool) (r : Option (C × List Blk)) (H : List Blk) : Option (C × List Blk) :=
  match d with
  | some d => match look t d with
    | .v (.bool b) => if b = w then r else some (.dead, H)
    | _ => none
  | none => none
def fieldV (P : Program) (ty : TypeId) (f : Nat) : C → Option C
  | .agg cs => (tfield P ty f).bind fun e => partAtC P e.2.1 cs e.1
  | _ => none
def idxV (P : Program) (H : List Blk) (ty : TypeId) : C → C → Option C
  | .v (.int _ n), c => idxC P H ty n (normC H c)
  | _, _ => none
def indexV (P : Program) (ty : TypeId) : C → C → Option C
  | .agg cs, .v (.int _ n) => idxA P ty n cs
  | .v v, .v u => ixV P ty v u
  | _, _ => none
def sliceV (P : Program) (H : List Blk) (ty : TypeId) (c : C) (lo hi : Option C) : Option C :=
  match normC H c with
  | .sl nl rows => sliceC P ty nl rows lo hi
  | .v v => (optV lo).bind fun l => (optV hi).bind fun h => slV P ty v l h
  | _ => none
def extractC (i : Nat) : C → Option C
  | .tup cs => cs[i]?
  | _ => none
def lenV (P : Program) (H : List Blk) (ty : TypeId) : C → Option C
  | .v v => lnV P ty v
  | c => lenC P H ty c
def unC (P : Program) (op : UnOp) : C → Option C
  | .v v => unV P op v
  | _ => none
def cvC (P : Program) (s d : TypeId) : C → Option C
  | .v v => cvV P s d v
  | _ => none
def storeC (P : Program) (H : List Blk) (ty : TypeId) : C → C → Option (C × List Blk)
  | .ptr n g i off, y => (partC H y).bind fun cs => if tsize P ty = some cs.length then (storeH H n g i off cs).map (C.dead, ·) else none
  | _, _ => none
section
variable {E : Env} {G : GT} {ρ : Operand → C} {d : Option Tmp} {ty : TypeId} {pos : String} {af : Array Edge} {g : Option (Nat × Bool)}
theorem evG_none {ops : Array Oper} {op : Op} : evG P E G ops H t ⟨d, op, ty, pos, af, none⟩ = evEff P E H (opC G t) ⟨d, op, ty, pos, af, none⟩ := (rfl)
theorem evG_some {ops : Array Oper} {op : Op} {j : Nat} {w : Bool} : evG P E G ops H t ⟨d, op, ty, pos, af, some (j, w)⟩ = guardC ((ops[j]?).bind (·.dst)) t w (evEff P E H (opC G t) ⟨d, op, ty, pos, af, some (j, w)⟩) H := (rfl)
theorem evE_move {x : Operand} : evEff P E H ρ ⟨d, .move x, ty, pos, af, g⟩ = some (ρ x, H) := (rfl)
theorem evE_assign {x : Operand} : evEff P E H ρ ⟨d, .assign x, ty, pos, af, g⟩ = some (ρ x, H) := (rfl)
theorem evE_pick {c x y : Operand} : evEff P E H ρ ⟨d, .pick c x y, ty, pos, af, g⟩ = (pickC (ρ c) (ρ x) (ρ y)).map (·, H) := by
  show (match ρ c with | .v (.bool b) => some (if b = true then ρ x else ρ y) | _ => none : Option C).map _ = _
  unfold pickC
  split <;> simp_all
theorem evE_nil {x : Operand} : evEff P E H ρ ⟨d, .nilCheck x, ty, pos, af, g⟩ = (nilC H (ρ x)).map (·, H) := (rfl)
theorem evE_box {x : Operand} {e : TypeId} : evEff P E H ρ ⟨d, .box e x, ty, pos, af, g⟩ = if (d.map E.vb).getD false = true then (partC H (ρ x)).map (fun cs => (C.ptr H.length 0 0 0, H ++ [newVarB e cs])) else (boxC H (ρ x)).map (·, H) := (rfl)
theorem evE_alloc {e : TypeId} : evEff P E H ρ ⟨d, .alloc e, ty, pos, af, g⟩ = (tzero P e).map (fun z => (C.ptr H.length 0 0 0, H ++ [newVarB e (z.map .v)])) := (rfl)
theorem evE_load {x : Operand} {e : TypeId} : evEff P E H ρ ⟨d, .load e x, ty, pos, af, g⟩ = (loadC P H e (ρ x)).map (·, H) := by
  show (match ρ x with | .ip cs => evLoad P e cs | .ptr n g i off => (ptrCells H n g i off).bind (evLoad P e) | _ => none : Option C).map _ = _
  unfold loadC
  split <;> simp_all
theorem evE_store {x y : Operand} {e : TypeId} : evEff P E H ρ ⟨d, .store e x y, ty, pos, af, g⟩ = storeC P H e (ρ x) (ρ y) := by
  show (match ρ x with | .ptr n g i off => (partC H (ρ y)).bind fun cs => if tsize P e = some cs.length then (storeH H n g i off cs).map (C.dead, ·) else none | _ => none : Option (C × List Blk)) = _
  unfold storeC
  split <;> simp_all
theorem evE_fieldAddr {x : Operand} {s : TypeId} {f : Nat} : evEff P E H ρ ⟨d, .fieldAddr s x f, ty, pos, af, g⟩ = ((tfield P s f).bind fun e => if e.2.2 ≠ 0 then fieldC H e.1 (ρ x) else none).map (·, H) := (rfl)
theorem evE_field {x : Operand} {s : TypeId} {f : Nat} : evEff P E H ρ ⟨d, .field s x f, ty, pos, af, g⟩ = (fieldV P s f (ρ x)).map (·, H) := by
  show (match ρ x with | .agg cs => (tfield P s f).bind fun e => partAtC P e.2.1 cs e.1 | _ => none : Option C).map _ = _
  unfold fieldV
  split <;> simp_all
theorem evE_indexAddr {x y : Operand} {s : TypeId} : evEff P E H ρ ⟨d, .indexAddr s x y, ty, pos, af, g⟩ = (idxV P H s (ρ y) (ρ x)).map (·, H) := by
  show (match ρ y with | .v (.int _ n) => idxC P H s n (normC H (ρ x)) | _ => none : Option C).map _ = _
  unfold idxV
  split <;> simp_all
theorem evE_index {x y : Operand} {s : TypeId} : evEff P E H ρ ⟨d, .index s x y, ty, pos, af, g⟩ = (indexV P s (ρ x) (ρ y)).map (·, H) := by
  show (match ρ x with | .agg cs => (match ρ y with | .v (.int _ n) => idxA P s n cs | _ => none) | .v v => (match ρ y with | .v u => ixV P s v u | _ => none) | _ => none : Option C).map _ = _
  unfold indexV
  congr 1
  generalize ρ x = cx
  generalize ρ y = cy
  cases cx <;> cases cy <;> (try rfl) <;> (rename_i v; cases v <;> rfl)
theorem evE_build {e : TypeId} {ps : Array (Nat × Operand)} : evEff P E H ρ ⟨d, .build e ps, ty, pos, af, g⟩ = (buildC P H e (ps.toList.map fun p => (p.1, ρ p.2))).map (·, H) := (rfl)
theorem evE_buildSlice {e : TypeId} {n : Nat} {ps : Array (Nat × Operand)} : evEff P E H ρ ⟨d, .buildSlice e n ps, ty, pos, af, g⟩ = (bsC P H e n (ps.toList.map fun p => (p.1, ρ p.2))).map (·, H) := (rfl)
theorem evE_slice {x : Operand} {s : TypeId} {lo hi : Option Operand} : evEff P E H ρ ⟨d, .slice s x lo hi none, ty, pos, af, g⟩ = (sliceV P H s (ρ x) (lo.map ρ) (hi.map ρ)).map (·, H) := by
  show (match normC H (ρ x) with | .sl nl rows => sliceC P s nl rows (lo.map ρ) (hi.map ρ) | .v v => (optV (lo.map ρ)).bind fun l => (optV (hi.map ρ)).bind fun h => slV P s v l h | _ => none : Option C).map _ = _
  unfold sliceV
  split <;> simp_all
theorem evE_extract {x : Operand} {i : Nat} : evEff P E H ρ ⟨d, .extract x i, ty, pos, af, g⟩ = (extractC i (ρ x)).map (·, H) := by
  show (match ρ x with | .tup cs => cs[i]? | _ => none : Option C).map _ = _
  unfold extractC
  split <;> simp_all
theorem evE_bin {op : BinOp} {e e2 : TypeId} {x y : Operand} : evEff P E H ρ ⟨d, .binOp op e x y e2, ty, pos, af, g⟩ = (binC P op e x y (ρ x) (ρ y)).map (·, H) := (rfl)
theorem evE_un {op : UnOp} {e : TypeId} {x : Operand} : evEff P E H ρ ⟨d, .unOp op e x, ty, pos, af, g⟩ = (unC P op (ρ x)).map (·, H) := by
  show (match ρ x with | .v v => unV P op v | _ => none : Option C).map _ = _
  unfold unC
  split <;> simp_all
theorem evE_convert {s e : TypeId} {x : Operand} : evEff P E H ρ ⟨d, .convert s e x, ty, pos, af, g⟩ = (cvC P s e (ρ x)).map (·, H) := by
  show (match ρ x with | .v v => cvV P s e v | _ => none : Option C).map _ = _
  unfold cvC
  split <;> simp_all
theorem evE_len {x : Operand} {s : TypeId} : evEff P E H ρ ⟨d, .call ⟨.builtin .len, #[x], #[s]⟩, ty, pos, af, g⟩ = (lenV P H s (ρ x)).map (·, H) := by
  show (match ρ x with | .v v => lnV P s v | c => lenC P H s c : Option C).map _ = _
  unfold lenV
  split <;> simp_all
theorem evE_append {x y : Operand} {s s2 : TypeId} : evEff P E H ρ ⟨d, .call ⟨.builtin .append, #[x, y], #[s, s2]⟩, ty, pos, af, g⟩ = if s = s2 then appC P s H (ρ x) (normC H (ρ y)) else none := (rfl)
theorem evE_callf {f : FuncId} {as : Array Operand} {ts : Array TypeId} : evEff P E H ρ ⟨d, .call ⟨.value (.func f), as, ts⟩, ty, pos, af, g⟩ = match E.kh f with
    | some F => (calleeC ρ ⟨.value (.func f), as, ts⟩).bind fun gc => if gc.1 = f then F gc.2 H else none
    | none => (evCall P E.kp H ρ ⟨.value (.func f), as, ts⟩).map (·, H) := (rfl)
theorem evE_callt {n : Nat} {as : Array Operand} {ts : Array TypeId} : evEff P E H ρ ⟨d, .call ⟨.value (.tmp n), as, ts⟩, ty, pos, af, g⟩ = (evCall P E.kp H ρ ⟨.value (.tmp n), as, ts⟩).map (·, H) := (rfl)
theorem callee_func {f : FuncId} {as : Array Operand} {ts : Array TypeId} (h : ρ (.func f) = .v (.func (.func f) #[] #[])) : calleeC ρ ⟨.value (.func f), as, ts⟩ = some (f, as.toList.map ρ) := by
  simp only [calleeC, h]
theorem binC_agg {op : BinOp} {e : TypeId} {x y : Operand} {us vs : List C} : binC P op e x y (.agg us) (.agg vs) = (cellsV us).bind fun u => (cellsV vs).bind fun v => aggEq P op e u v := (rfl)
theorem binC_sl {op : BinOp} {e : TypeId} {x y : Operand} {nl : Bool} {rows : List (List C)} : binC P op e x y (.sl nl rows) (.sl true []) = nilcmpC P op e nl := (rfl)
theorem binC_v {op : BinOp} {e : TypeId} {x y : Operand} {u v : Value} : binC P op e x y (.v u) (.v v) = binV P op e x y u v := (rfl)
end

/-! ### integers -/

theorem bin_add {k : IntKind} {a b : Int} {ty : TypeId} {x y : Operand} : binV P .add ty x y (.int k a) (.int k b) = some (.v (.int k (k.wrap (a + b)))) := by
  simp [binV, eqGuard, binOp, Op.intArith, pureRun, bind, pure, Sem.bind, ofV]
theorem bin_sub {k : IntKind} {a b : Int} {ty : TypeId} {x y : Operand} : binV P .sub ty x y (.int k a) (.int k b) = some (.v (.int k (k.wrap (a - b)))) := by
  simp [binV, eqGuard, binOp, Op.intArith, pureRun, bind, pure, Sem.bind, ofV]
theorem bin_mul {k : IntKind} {a b : Int} {ty : TypeId} {x y : Operand} : binV P .mul ty x y (.int k a) (.int k b) = some (.v (.int k (k.wrap (a * b)))) := by
  simp [binV, eqGuard, binOp, Op.intArith, pureRun, bind, pure, Sem.bind, ofV]
theorem bin_lss {k : IntKind} {a b : Int} {ty : TypeId} {x y : Operand} : binV P .lss ty x y (.int k a) (.int k b) = some (.v (.bool (decide (a < b)))) := by
  simp [binV, eqGuard, binOp, Op.intCmp, pureRun, bind, pure, Sem.bind, ofV]
theorem bin_leq {k : IntKind} {a b : Int} {ty : TypeId} {x y : Operand} : binV P .leq ty x y (.int k a) (.int k b) = some (.v (.bool (decide (a ≤ b)))) := by
  simp [binV, eqGuard, binOp, Op.intCmp, pureRun, bind, pure, Sem.bind, ofV]
theorem bin_gtr {k : IntKind} {a b : Int} {ty : TypeId} {x y : Operand} : binV P .gtr ty x y (.int k a) (.int k b) = some (.v (.bool (decide (b < a)))) := by
  simp [binV, eqGuard, binOp, Op.intCmp, pureRun, bind, pure, Sem.bind, ofV]
theorem bin_geq {k : IntKind} {a b : Int} {ty : TypeId} {x y : Operand} : binV P .geq ty x y (.int k a) (.int k b) = some (.v (.bool (decide (b ≤ a)))) := by
  simp [binV, eqGuard, binOp, Op.intCmp, pureRun, bind, pure, Sem.bind, ofV]
theorem bin_eql {k : IntKind} {a b : Int} {ty : TypeId} {x y : Operand} : binV P .eql ty x y (.int k a) (.int k b) = some (.v (.bool (decide (a = b)))) := by
  simp [binV, eqGuard, binOp, Op.intCmp, pureRun, bind, pure, Sem.bind, ofV, BEq.beq]
theorem bin_neq {k : IntKind} {a b : Int} {ty : TypeId} {x y : Operand} : binV P .neq ty x y (.int k a) (.int k b) = some (.v (.bool (decide (a ≠ b)))) := by
  simp [binV, eqGuard, binOp, Op.intCmp, pureRun, bind, pure, Sem.bind, ofV, bne, BEq.beq]
theorem bin_rem {k : IntKind} {a b : Int} {ty : TypeId} {x y : Operand} (h : b ≠ 0) : binV P .rem ty x y (.int k a) (.int k b) = some (.v (.int k (a.tmod b))) := by
  simp [binV, eqGuard, binOp, Op.intDiv, h, pureRun, bind, pure, Sem.bind, ofV]
theorem bin_quo {k : IntKind} {a b : Int} {ty : TypeId} {x y : Operand} (h : b ≠ 0) : binV P .quo ty x y (.int k a) (.int k b) = some (.v (.int k (k.wrap (a.tdiv b)))) := by
  simp [binV, eqGuard, binOp, Op.intDiv, h, pureRun, bind, pure, Sem.bind, ofV]
theorem un_not {b : Bool} : unV P .not (.bool b) = some (.v (.bool !b)) := (rfl)
theorem wrap_i64 {n : Int} (h1 : -9223372036854775808 ≤ n) (h2 : n ≤ 9223372036854775807) : IntKind.i64.wrap n = n := by
  unfold IntKind.wrap
  simp [IntKind.bits, IntKind.signed]
  omega
end

/-! ## Data and what they say -/

structure Cod (α : Type) where
  enc : α → List C
  dec : List C → Option α
  de : ∀ a, dec (enc a) = some a
  ed : ∀ r a, dec r = some a → r = enc a
namespace Cod
variable {α : Type} (c : Cod α)
def encL (l : List α) : List (List C) := l.map c.enc
def decL (rows : List (List C)) : Option (List α) := rows.mapM c.dec
theorem deL : ∀ l : List α, c.decL (c.encL l) = some l
  | [] => rfl
  | a :: l => by
    have ih := deL l
    unfold decL encL at ih ⊢
    simp [List.mapM_cons, c.de, ih]
theorem edL : ∀ (rows : List (List C)) (l : List α), c.decL rows = some l → rows = c.encL l
  | [], l, h => by simp [decL] at h; subst h; rfl
  | r :: rows, l, h => by
    unfold decL at h
    simp only [List.mapM_cons, Option.bind_eq_bind, Option.bind_eq_some_iff, Option.pure_def, Option.some.injEq] at h
    obtain ⟨a, ha, l', hl, rfl⟩ := h
    rw [c.ed r a ha, edL rows l' hl]
    rfl
theorem len (l : List α) : (c.encL l).length = l.length := by simp [encL]
theorem get (l : List α) (i : Nat) : (c.encL l)[i]? = (l[i]?).map c.enc := by simp [encL]
end Cod
def codInt : Cod Int where
  enc n := [.v (.int .i64 n)]
  dec r := match r with | [.v (.int .i64 n)] => some n | _ => none
  de _ := rfl
  ed r a h := by
    split at h
    · simp at h; subst h; rfl
    · cases h
def codPair : Cod (Int × Int) where
  enc p := [.v (.int .i64 p.1), .v (.int .i64 p.2)]
  dec r := match r with | [.v (.int .i64 a), .v (.int .i64 b)] => some (a, b) | _ => none
  de _ := rfl
  ed r a h := by
    split at h
    · simp at h; subst h; rfl
    · cases h
def codStr : Cod ByteArray where
  enc s := [.v (.string s)]
  dec r := match r with | [.v (.string s)] => some s | _ => none
  de _ := rfl
  ed r a h := by
    split at h
    · simp at h; subst h; rfl
    · cases h

theorem codInt_enc (n : Int) : codInt.enc n = [.v (.int .i64 n)] := rfl
theorem codPair_enc (p : Int × Int) : codPair.enc p = [.v (.int .i64 p.1), .v (.int .i64 p.2)] := rfl
theorem codStr_enc (s : ByteArray) : codStr.enc s = [.v (.string s)] := rfl
theorem retQ_ret {P : Program} {rs : List ResultVar} {r : C} {t : List (Nat × C)} {H : List Blk} : retQ P rs r .ret t H ↔ ((resAll P t H rs).bind fun cs => (packC cs).bind fun c => finV H c) = some r := by
  simp [retQ]
theorem len_le {M : Mem} {v : Value} {nl : Bool} {rows : List (List C)} (h : Rv M v (.sl nl rows)) : rows.length ≤ maxLen := by
  have h' : Rd0 M.S M.w v (.sl nl rows) := h
  cases h' with
  | nil => simp [maxLen]
  | sl b off n cap k _ val hn hm hcap hk hcc hrr => rw [hn]; exact hm
theorem arg_len {args : List C} (h : ∃ M vs, Rvs M vs args) {i : Nat} {nl : Bool} {rows : List (List C)} (hi : args[i]? = some (.sl nl rows)) : rows.length ≤ maxLen := by
  obtain ⟨M, vs, hv⟩ := h
  exact len_le (hv.2 i _ hi)

/-! ## What is known of functions, as a list -/

def kpL : List (Nat × (List C → Option C)) → Nat → List C → Option C
  | [], _ => fun _ => none
  | (k, F) :: l, f => if f = k then F else kpL l f
theorem kpL_nil {f : Nat} : kpL [] f = fun _ => none := (rfl)
theorem kpL_cons {k : Nat} {F : List C → Option C} {l : List (Nat × (List C → Option C))} {f : Nat} : kpL ((k, F) :: l) f = if f = k then F else kpL l f := (rfl)
theorem kpL_ok {P : Program} {G : GT} : ∀ (l : List (Nat × (List C → Option C))), (∀ p ∈ l, SpecP P G p.1 p.2) → ∀ f, SpecP P G f (kpL l f)
  | [], _, f => fun args r h => by simp [kpL] at h
  | (k, F) :: l, h, f => by
    simp only [kpL]
    split
    · rename_i e
      subst e
      exact h (f, F) List.mem_cons_self
    · exact kpL_ok l (fun p hp => h p (List.mem_cons_of_mem _ hp)) f
def khL : List (Nat × (List C → List Blk → Option (C × List Blk))) → Nat → Option (List C → List Blk → Option (C × List Blk))
  | [], _ => none
  | (k, F) :: l, f => if f = k then some F else khL l f
theorem khL_nil {f : Nat} : khL [] f = none := (rfl)
theorem khL_cons {k : Nat} {F : List C → List Blk → Option (C × List Blk)} {l : List (Nat × (List C → List Blk → Option (C × List Blk)))} {f : Nat} : khL ((k, F) :: l) f = if f = k then some F else khL l f := (rfl)
theorem khL_ok {P : Program} {G : GT} : ∀ (l : List (Nat × (List C → List Blk → Option (C × List Blk)))), (∀ p ∈ l, SpecH P G p.1 p.2) → ∀ f F, khL l f = some F → SpecH P G f F
  | [], _, f, F, h => by simp [khL] at h
  | (k, F0) :: l, h, f, F, hf => by
    simp only [khL] at hf
    split at hf
    · rename_i e
      subst e
      cases hf
      exact h (f, F0) List.mem_cons_self
    · exact khL_ok l (fun p hp => h p (List.mem_cons_of_mem _ hp)) f F hf
def mkE (l : List (Nat × (List C → Option C))) (lh : List (Nat × (List C → List Blk → Option (C × List Blk)))) : Env := { kp := kpL l, kh := khL lh, vb := fun _ => false }
section
variable {l : List (Nat × (List C → Option C))} {lh : List (Nat × (List C → List Blk → Option (C × List Blk)))}
theorem mkE_kp : (mkE l lh).kp = kpL l := (rfl)
theorem mkE_kh : (mkE l lh).kh = khL lh := (rfl)
theorem mkE_vb {n : Nat} : (mkE l lh).vb n = false := (rfl)
theorem mkE_ok {P : Program} {G : GT} (h : ∀ p ∈ l, SpecP P G p.1 p.2) (hh : ∀ p ∈ lh, SpecH P G p.1 p.2) : (mkE l lh).OK P G := ⟨kpL_ok l h, khL_ok lh hh⟩
end
end Go.Proofs.YtiognfhjmcbbpaaDoor.Ev

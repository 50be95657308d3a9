import Derived.Test.YtpbahffkhpfakaaWLd
namespace Go.Proofs.Ytpbahffkhpfakaa
open Go.RowKit
set_option linter.unusedSimpArgs false
set_option linter.unusedVariables false

/-! ## load -/

def rangeB (c : Cal) (l : List Int) : Bool := l.all fun n => inB n 0 ((c.room.length : Int) - 1)
def mayB (c : Cal) (ps : List (Int × Int)) : Bool := ps.all fun p => mayF c p.1 p.2
def loadE (c : Cal) (ts ds ask : List Int) : Int :=
  if checkF c c.team.length ≠ 0 then checkF c c.team.length
  else if ts.length ≠ ds.length then 1
  else if 24 < ts.length then 3
  else if rangeB c (ts ++ ask) = false then 2
  else if mayB c (ts.zip ds) = false then 47
  else 0
def slotOf (c : Cal) (p : Int × Int) : Int := atF c p.2 * 8 + p.1
def loadN (c : Cal) (ps : List (Int × Int)) (o : Nat) : Int := ((ps.filter fun p => decide (slotOf c p = (o : Int))).length : Nat)
def LoadOut (c : Cal) (ts ds ask : List Int) (w : World) (e : Ending) (w' : World) : Prop :=
  ∃ f : Nat → Int, e = .returned (.tuple #[lval f, .int .i64 (loadE c ts ds ask)]) ∧ (loadE c ts ds ask = 0 → ∀ o, o < 256 → f o = loadN c (ts.zip ds) o) ∧ Below w.heap.size w w'

set_option maxRecDepth 100000 in
set_option maxHeartbeats 4000000 in
theorem load_check (c : Cal) (v1 v2 v3 : Value) (ts ds ask : List Int) (w : World) (h : CalAt w c) (h0 : checkF c c.team.length ≠ 0) :
    Calls Try.prog 53 #[c.val, v1, v2, v3] w fun e w' => LoadOut c ts ds ask w e w' := by
  have HE := Lib.hid (show loadE c ts ds ask = checkF c c.team.length by unfold loadE; rw [if_pos h0])
  have HN := Lib.hid h0
  have H0 := Lib.hid (ld0 w c h)
  have HC := Lib.hid (fun W (hW : CalAt W c) => check_any c c.team.length W hW)
  obtain ⟨wa, wc, ta, tc, ra, rc, e1, e2, e3⟩ := h.forms
  have hq : (checkF c c.team.length == 0) = false := by simpa using h0
  clear h h0
  unfold LoadOut
  generalize checkF c c.team.length = z at *
  generalize loadE c ts ds ask = le at *
  generalize loadN c (ts.zip ds) = ln at *
  obtain ⟨ws, tm, rm, wv, tv, rv⟩ := c
  simp only at e1 e2 e3
  subst e1 e2 e3
  unfold Cal.val at *
  simp only at *
  go_enter Try.func53, Try.ntmps53
  go_wp2_with fail
  generalize (((w.alloc (.cells #[.slice wa ws.length wc, .slice ta tm.length tc, .slice ra rm.length rc] 25)).alloc (.cells Try.zeroCells76 76)).alloc (.cells Try.zeroCells76 76)) = W0 at *
  refine (HC.out _ H0.out.cal).mono ?_
  rintro e w1 ⟨rfl, hb⟩
  have h1 := H0.out.later hb
  have H1 := Lib.hid h1
  have hcnt := h1.cnt
  have hres := h1.res
  clear hb h1
  go_wp2_with (first
    | (refine wo_load hcnt rfl rfl ?_)
    | (refine wo_store (f := fun _ => 0) hres rfl rfl rfl ?_)
    | (refine wl_load hcnt rfl rfl rfl ?_)
    | (refine wl_store (f := fun _ => 0) hres rfl rfl rfl rfl ?_))
  refine bodyPost_ret (v := .tuple #[lval fun _ => 0, .int .i64 z]) ?_ rfl ?_
  · exact load_ret w1 _ _ _ H1.out.res _ rfl
  · exact ⟨fun _ => 0, by rw [HE.out], fun h => absurd (HE.out.symm.trans h) HN.out, Below.setCells' _ _ H1.out.below (by omega)⟩
end Go.Proofs.Ytpbahffkhpfakaa

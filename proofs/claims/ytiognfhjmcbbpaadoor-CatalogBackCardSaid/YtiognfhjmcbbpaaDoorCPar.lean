import Derived.Test.YtiognfhjmcbbpaaDoorCFin
import Derived.Laws.Rows
import Derived.Lib.AtoiErrMem
namespace Go.Proofs.YtiognfhjmcbbpaaDoor
open Go.RowKit
set_option linter.unusedSimpArgs false
set_option linter.unusedVariables false

/-! ## Parse of a text with a size -/

def MaxAt (w : World) : Prop := ∃ m : Int, w.cell? ⟨2, 0, none⟩ = some (.int .i64 m)
theorem MaxAt.below {w w' : World} (h : MaxAt w) (hb : Below w.heap.size w w') : MaxAt w' := by
  obtain ⟨m, hm⟩ := h
  have hs : 2 < w.heap.size := by
    by_cases h1 : 2 < w.heap.size
    · exact h1
    · unfold World.cell? at hm
      rw [Array.getElem?_eq_none (by simp only; omega)] at hm; cases hm
  exact ⟨m, (hb.cell (p := ⟨2, 0, none⟩) hs).trans hm⟩
theorem results_cell_row1 {P : Program} {fn : Func} {p u : Tmp} {ty : TypeId} (h : fn.results = #[.cell p ty, .tmp u]) (tmps : Array Value) (w : World) (g : Nat) (t : TypeId) (cs : Array Value) (fr : Nat × Nat) (d : TypeDesc)
    (hp : tmps.getD p undef = .pointer (some ⟨g, 0, none⟩)) (hg : w.heap[g]? = some (.cells cs t fr))
    (hu : P.underlying ty = some d) (hd : (match d with | .struct _ | .array _ _ => true | _ => false) = true) (hi : (P.info? ty).map (·.size) = some cs.size) :
    (results fn tmps).run P w = .ok (.tuple #[.agg cs, tmps.getD u undef]) w := by
  have hp' : tmps[p]?.getD undef = .pointer (some ⟨g, 0, none⟩) := by simpa using hp
  simp [results, h, hp', asAddr, Sem.run_bind, Result.andThen, run_loadVar_row w g t ty cs fr d hg hu hd hi]
theorem infoUse : (Tryd.prog.info? 23).map (·.size) = some 2 := by kernel_rfl
theorem below_drewN (w : World) (n : Nat) : Below w.heap.size w (w.drewN n) := ⟨rfl, rfl, rfl, Nat.le_refl _, fun _ _ => rfl⟩
theorem cut_any (s sep : ByteArray) (w : World) (hs : s.size < 4294967281) (hm : MaxAt w) (a b : ByteArray) (f : Bool) (hc : Lib.cut s.data.toList sep.data.toList = (a.data.toList, b.data.toList, f)) :
    Calls Tryd.prog 33 #[.string s, .string sep] w fun e w' => e = .returned (.tuple #[.string a, .string b, .bool f]) ∧ Below w.heap.size w w' := by
  obtain ⟨m, hm⟩ := hm
  have h := Tryd.strings_Cut s sep m w hs hm
  rw [hc] at h
  refine h.mono ?_
  rintro e w' ⟨rfl, n, rfl⟩
  exact ⟨rfl, below_drewN w n⟩
theorem atoi_any (s : ByteArray) (n : Int) (hl : s.size ≤ 18) (h : Lib.atoi s.data.toList = some n) (w : World) :
    Calls Tryd.prog 34 #[.string s] w fun e w' => e = .returned (.tuple #[.int .i64 n, .nilIface]) ∧ Below w.heap.size w w' := by
  refine (Tryd.strconv_Atoi s n hl h w).mono ?_
  rintro e w' ⟨rfl, t, rfl⟩
  exact ⟨rfl, Lib.bytesWorld_below _ _ _⟩
theorem cellOf {w : World} {B : Nat} {cur : Array Value} {T : TypeId} {fz : Nat × Nat} (h : w.heap[B]? = some (.cells cur T fz)) (o : Nat) : w.cell? ⟨B, o, none⟩ = cur[o]? := by
  simp [World.cell?, h]
theorem freeOf {w : World} {B : Nat} {cur : Array Value} {T : TypeId} (h : w.heap[B]? = some (.cells cur T (0, 0))) (o : Nat) : w.frozen? ⟨B, o, none⟩ = false := by
  simp [World.frozen?, h]
theorem setOf {w : World} {B : Nat} {cur : Array Value} {T : TypeId} {fz : Nat × Nat} (h : w.heap[B]? = some (.cells cur T fz)) (o : Nat) (v : Value) : (w.setCell ⟨B, o, none⟩ v).heap[B]? = some (.cells (cur.setIfInBounds o v) T fz) := by
  simp [World.setCell, Array.getElem?_modify, h]
theorem otherOf {w : World} {x : Addr} {v : Value} {k : Nat} (h : k ≠ x.block) : (w.setCell x v).heap[k]? = w.heap[k]? := by
  have h2 : ¬ x.block = k := fun e => h e.symm
  simp [World.setCell, Array.getElem?_modify, h2]
set_option maxRecDepth 100000 in
set_option maxHeartbeats 2000000 in
theorem parse_of (s nm sz : ByteArray) (k : Nat) (n : Int) (w : World) (he : Env w) (hm : MaxAt w) (hs : s.size < 4294967281) (hc : Lib.cut s.data.toList [45] = (nm.data.toList, sz.data.toList, true))
    (hf : findFrom nm 0 = k) (hz : sz.size ≤ 18) (ha : Lib.atoi sz.data.toList = some n) (hn : -9223372036854775808 ≤ n ∧ n ≤ 9223372036854775807) (hv : 0 < strF k n) (ht : textF k n = s) :
    Calls Tryd.prog 9 #[.string s] w fun e w' => e = .returned (.tuple #[.agg #[.int .i64 k, .int .i64 n], .int .i64 0]) ∧ Below w.heap.size w w' := by
  have HE := Lib.hid (fun (W : World) (hW : Below w.heap.size w W) => he.below hW)
  have b0 : Below w.heap.size w (w.alloc (.cells #[.int .i64 0, .int .i64 0] 23)) := (Below.refl _ _).alloc (Nat.le_refl _) _
  have r0 : (w.alloc (.cells #[.int .i64 0, .int .i64 0] 23)).heap[w.heap.size]? = some (.cells #[.int .i64 0, .int .i64 0] 23 (0, 0)) := MapKept.heap_alloc w _ |>.1
  have z0 : (w.alloc (.cells #[.int .i64 0, .int .i64 0] 23)).heap.size = w.heap.size + 1 := by simp
  have HCUT := Lib.hid (cut_any s ⟨#[45]⟩ _ hs (hm.below b0) nm sz true hc)
  have HB0 := Lib.hid b0
  have HR0 := Lib.hid r0
  have HZ0 := Lib.hid z0
  have HF := Lib.hid (fun W (hW : AlgAt W) => by have h := find_any nm W hW; rw [hf] at h; exact h)
  have HA := Lib.hid (fun W => atoi_any sz n hz ha W)
  have HV := Lib.hid (fun W (hW : AlgAt W) => by have h := valid_any k n W hW; rw [decide_eq_true hv] at h; exact h)
  have HT := Lib.hid (fun W (hW : Env W) => by have h := text_any k n W hW hn; rw [ht] at h; exact h)
  clear he hm hs hc hf hz ha hn hv ht b0 r0 z0
  go_enter Tryd.func9, Tryd.ntmps9
  go_wp2_with fail
  generalize w.alloc (.cells #[.int .i64 0, .int .i64 0] 23) = W0 at *
  refine HCUT.out.mono ?_
  rintro e w1 ⟨rfl, h1⟩
  have B1 := Lib.hid (HB0.out.trans (h1.mono HB0.out.size))
  have R1 := Lib.hid ((h1.block w.heap.size (by have := HZ0.out; omega)).trans HR0.out)
  have Z1 := Lib.hid (show w.heap.size < w1.heap.size by have := h1.size; have := HZ0.out; omega)
  clear h1
  go_wp2_with fail
  refine (HF.out w1 (HE.out _ B1.out).alg).mono ?_
  rintro e w2 ⟨rfl, h2⟩
  have B2 := Lib.hid (B1.out.trans (h2.mono B1.out.size))
  have R2 := Lib.hid ((h2.block w.heap.size Z1.out).trans R1.out)
  have Z2 := Lib.hid (show w.heap.size < w2.heap.size by have := h2.size; have := Z1.out; omega)
  clear h2
  go_wp2_with fail
  have b3 : Below w2.heap.size w2 (w2.alloc (.cells #[.int .i64 k, .int .i64 0] 23)) := (Below.refl _ _).alloc (Nat.le_refl _) _
  have u3 : (w2.alloc (.cells #[.int .i64 k, .int .i64 0] 23)).heap[w2.heap.size]? = some (.cells #[.int .i64 k, .int .i64 0] 23 (0, 0)) := MapKept.heap_alloc w2 _ |>.1
  have HU3 := Lib.hid u3
  have B3 := Lib.hid (B2.out.trans (b3.mono B2.out.size))
  have R3 := Lib.hid ((b3.block w.heap.size Z2.out).trans R2.out)
  have Z3 := Lib.hid (show w2.heap.size < (w2.alloc (.cells #[.int .i64 k, .int .i64 0] 23)).heap.size by simp)
  clear b3 u3
  generalize w2.alloc (.cells #[.int .i64 k, .int .i64 0] 23) = W3 at *
  refine (HA.out W3).mono ?_
  rintro e w4 ⟨rfl, h4⟩
  have u4 := (h4.block w2.heap.size Z3.out).trans HU3.out
  have Z4 := Lib.hid (show w2.heap.size < w4.heap.size by have := h4.size; have := Z3.out; omega)
  have B4 := Lib.hid (B3.out.trans (h4.mono B3.out.size))
  have R4 := Lib.hid ((h4.block w.heap.size (by have := Z3.out; have := Z2.out; omega)).trans R3.out)
  have c0 := cellOf u4 0
  have c1 := cellOf u4 1
  have g1 := freeOf u4 1
  have n1 : w.heap.size ≠ w2.heap.size := by have := Z2.out; omega
  have n2 : w.heap.size ≤ w2.heap.size := by have := Z2.out; omega
  have b5 : Below w.heap.size w4 (w4.setCell ⟨w2.heap.size, 1, none⟩ (.int .i64 n)) := (Below.refl _ _).setCell (p := ⟨w2.heap.size, 1, none⟩) n2 _
  have B5 := Lib.hid (B4.out.trans b5)
  have U5 := Lib.hid (setOf u4 1 (.int .i64 n))
  have R5 := Lib.hid ((otherOf (w := w4) (x := ⟨w2.heap.size, 1, none⟩) (v := .int .i64 n) n1).trans R4.out)
  have Z5 := Lib.hid (show w2.heap.size < (w4.setCell ⟨w2.heap.size, 1, none⟩ (.int .i64 n)).heap.size by have := Z4.out; simpa [World.setCell] using this)
  have N12 := Lib.hid (And.intro n1 n2)
  clear h4 b5 n1 n2 u4
  go_wp2_with fail
  clear c0 c1 g1
  generalize w4.setCell ⟨w2.heap.size, 1, none⟩ (.int .i64 n) = W5 at *
  refine (HV.out W5 (HE.out _ B5.out).alg).mono ?_
  rintro e w6 ⟨rfl, h6⟩
  have B6 := Lib.hid (B5.out.trans (h6.mono B5.out.size))
  have u6 := (h6.block w2.heap.size Z5.out).trans U5.out
  have R6 := Lib.hid ((h6.block w.heap.size (by have := Z5.out; have := N12.out; omega)).trans R5.out)
  have Z6 := Lib.hid (show w2.heap.size < w6.heap.size by have := h6.size; have := Z5.out; omega)
  have c0 := cellOf u6 0
  have c1 := cellOf u6 1
  have U6 := Lib.hid u6
  clear h6 u6
  go_wp2_with fail
  refine (HT.out w6 (HE.out _ B6.out)).mono ?_
  rintro e w7 ⟨rfl, h7⟩
  have B7 := Lib.hid (B6.out.trans (h7.mono B6.out.size))
  have u7 := (h7.block w2.heap.size Z6.out).trans U6.out
  have r7 := (h7.block w.heap.size (by have := Z6.out; have := N12.out; omega)).trans R6.out
  clear c0 c1
  have c0 := cellOf u7 0
  have c1 := cellOf u7 1
  have e0 := cellOf r7 0
  have e1 := cellOf r7 1
  have g0 := freeOf r7 0
  have g1 := freeOf r7 1
  have RR := Lib.hid (setOf (setOf r7 0 (.int .i64 k)) 1 (.int .i64 n))
  have BB := Lib.hid (B7.out.trans (((Below.refl w.heap.size w7).setCell (p := ⟨w.heap.size, 0, none⟩) (Nat.le_refl _) (.int .i64 k)).setCell (p := ⟨w.heap.size, 1, none⟩) (Nat.le_refl _) (.int .i64 n)))
  have n1 := N12.out.1
  clear h7 u7 r7
  go_wp2_with fail
  refine bodyPost_ret (v := .tuple #[.agg #[.int .i64 k, .int .i64 n], .int .i64 0]) ?hr rfl ?_
  case hr => exact results_cell_row1 (P := Tryd.prog) (fn := Tryd.f9) (p := 2) (u := 3) rfl _ _ w.heap.size 23 _ (0, 0) _ rfl RR.out Tryd.underlying23 rfl infoUse
  exact ⟨rfl, BB.out⟩

/-! ### the chapter's example -/
def exS : ByteArray := ⟨#[114, 115, 97, 45, 50, 48, 52, 56]⟩
theorem find_step (s : ByteArray) (i : Nat) (h : i < 23) (hn : ¬ (1 ≤ i ∧ (algRow i).1 = s)) : findFrom s i = findFrom s (i + 1) := by
  conv => lhs; unfold findFrom
  rw [dif_pos h, if_neg hn]
theorem find_hit (s : ByteArray) (i : Nat) (h : i < 23) (hn : 1 ≤ i ∧ (algRow i).1 = s) : findFrom s i = i := by
  unfold findFrom
  rw [dif_pos h, if_pos hn]
theorem find_rsa : findFrom ⟨#[114, 115, 97]⟩ 0 = 5 := by
  rw [find_step _ 0 (by decide) (by decide +kernel), find_step _ 1 (by decide) (by decide +kernel), find_step _ 2 (by decide) (by decide +kernel), find_step _ 3 (by decide) (by decide +kernel), find_step _ 4 (by decide) (by decide +kernel)]
  exact find_hit _ 5 (by decide) (by decide +kernel)
theorem str_ex : strF 5 2048 = 112 := by decide
theorem text_ex : textF 5 2048 = exS := by
  unfold textF
  rw [if_pos (by rw [str_ex]; decide), if_neg (by decide)]
  decide +kernel
theorem parse_ex (w : World) (he : Env w) (hm : MaxAt w) :
    Calls Tryd.prog 9 #[.string exS] w fun e w' => e = .returned (.tuple #[.agg #[.int .i64 5, .int .i64 2048], .int .i64 0]) ∧ Below w.heap.size w w' :=
  parse_of exS ⟨#[114, 115, 97]⟩ ⟨#[50, 48, 52, 56]⟩ 5 2048 w he hm (by decide) (by decide +kernel) find_rsa (by decide) (by decide +kernel) (by decide) (by rw [show ((5 : Nat) : Int) = 5 from rfl, str_ex]; decide) text_ex
end Go.Proofs.YtiognfhjmcbbpaaDoor

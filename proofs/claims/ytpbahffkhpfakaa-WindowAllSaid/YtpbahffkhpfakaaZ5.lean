import Derived.Test.YtpbahffkhpfakaaRErZ
import Derived.Test.YtpbahffkhpfakaaWNx3Z
import Derived.Test.YtpbahffkhpfakaaWFu1Z
import Derived.Deep.RegionHeld3
namespace Go.Proofs.Ytpbahffkhpfakaa
open Go.RowKit
set_option linter.unusedSimpArgs false
set_option linter.unusedVariables false

/-! ## Changes that fit, drawn one after the other -/

structure Fitting (c : Cal) (ts ds : List Int) : Prop where
  ok : loadE c ts ds [] = 0
  room : fullB c (loadN c (ts.zip ds)) = false
theorem Fitting.le {c : Cal} {ts ds : List Int} (h : Fitting c ts ds) {i t : Nat} (hi : i < 32) (ht : t < c.room.length) : loadN c (ts.zip ds) (i * 8 + t) ≤ c.room[t] := by
  by_cases hc : loadN c (ts.zip ds) (i * 8 + t) ≤ c.room[t]
  · exact hc
  · have := fullB_yes (c := c) (f := loadN c (ts.zip ds)) hi ht (by omega)
    rw [h.room] at this
    cases this
theorem Fitting.fits {c : Cal} {ts ds : List Int} (h : Fitting c ts ds) : fitsE c ts ds = 0 := by
  unfold fitsE
  rw [h.ok, if_neg (by simp), h.room]
  rfl
theorem fitting_nil {c : Cal} {n : Nat} (h : Drawn c n) : Fitting c [] [] := by
  have hc := drawn_chk h
  refine ⟨?_, ?_⟩
  · unfold loadE
    rw [if_neg (by rw [hc]; simp), if_neg (by simp), if_neg (by simp), if_neg (by simp [rangeB]), if_neg (by simp [mayB])]
  · refine fullB_no fun i _ t ht => ?_
    have := (room_ok hc t ht).1
    simpa [loadN] using this
theorem at_in {c : Cal} {n : Int} (h : checkF c n = 0) (d : Int) {i : Nat} (hi : i < c.wins.length) (h1 : c.wins[i].frm ≤ d) (h2 : d < c.wins[i].til) : atF c d = (i : Int) := by
  have hs := sorted (chk_sorted h).1 (chk_sorted h).2
  rcases at_spec c 0 d with ⟨e, _⟩ | ⟨m, hm, e, h3, h4, _⟩
  · exfalso
    unfold atF at e
    rcases firstI_cases (hasB d) c.wins with ⟨m, hm, e2, _, _⟩ | ⟨_, hno⟩
    · omega
    · have := hno i hi
      simp [hasB] at this
      omega
  · rw [e]
    by_cases e1 : m = i
    · rw [e1]
    · exfalso
      by_cases e2 : m < i
      · have := hs i m hi e2; omega
      · have := hs m i hm (by omega); omega
/-- one change more, in a window, for a team of it -/
theorem Fitting.snoc {c : Cal} {ts ds : List Int} (h : Fitting c ts ds) {t j : Nat} {d : Int} (hl : ts.length < 24) (ht : t < c.room.length) (hj : j < c.wins.length) (h1 : c.wins[j].frm ≤ d) (h2 : d < c.wins[j].til) (h3 : (c.wins[j].ts.any fun y => decide ((t : Int) = y)) = true) (h4 : loadN c (ts.zip ds) (j * 8 + t) < c.room[t]) : Fitting c (ts ++ [(t : Int)]) (ds ++ [d]) := by
  have hok := load_ok h.ok
  have hchk := loadE_zero h.ok
  have hr8 := (ok0_of hchk).room
  have hm : mayF c t d = true := by rw [may_in hchk t d hj h1 h2]; exact h3
  have ha := at_in hchk d hj h1 h2
  have hz : (ts ++ [(t : Int)]).zip (ds ++ [d]) = ts.zip ds ++ [((t : Int), d)] := by rw [List.zip_append hok.1]; rfl
  have hs : slotOf c ((t : Int), d) = ((j * 8 + t : Nat) : Int) := by unfold slotOf; rw [ha]; simp only; omega
  refine ⟨?_, ?_⟩
  · unfold loadE
    rw [if_neg (by rw [hchk]; simp), if_neg (by simp [hok.1]), if_neg (by simp; omega), if_neg ?_, if_neg ?_]
    · rw [hz]
      unfold mayB
      rw [List.all_append]
      have : ((ts.zip ds).all fun p => mayF c p.1 p.2) = true := all_yes fun k hk => by
        rw [List.length_zip] at hk
        rw [zip_at (by omega) (by omega)]
        exact hok.2.2.2 k (by omega) (by omega)
      simp [this, hm]
    · unfold rangeB
      rw [List.append_nil, List.all_append]
      have : (ts.all fun n => inB n 0 ((c.room.length : Int) - 1)) = true := all_yes fun k hk => by
        have := hok.2.2.1 k hk
        unfold inB
        simp
        omega
      have h5 : inB (t : Int) 0 ((c.room.length : Int) - 1) = true := by unfold inB; simp; omega
      simp [this, h5]
  · rw [hz]
    refine fullB_no fun i hi t' ht' => ?_
    rw [loadN_snoc, hs]
    have hle := h.le hi ht'
    by_cases e : ((j * 8 + t : Nat) : Int) = ((i * 8 + t' : Nat) : Int)
    · rw [if_pos e]
      have e1 : i = j := by omega
      have e2 : t' = t := by omega
      subst e1 e2
      omega
    · rw [if_neg e]
      exact hle
theorem Fitting.early {c : Cal} {ts ds : List Int} (h : Fitting c ts ds) {t : Nat} (ht : t < c.room.length) (d : Int) : earlE c ts ds t = 0 ∧ earlD c ts ds t d = firstD d (suitB c (loadN c (ts.zip ds)) t) 0 c.wins := by
  have e : earlE c ts ds t = 0 := by
    rw [earlE_in ⟨by omega, by omega⟩]
    exact h.fits
  refine ⟨e, ?_⟩
  unfold earlD
  rw [e, if_neg (by simp)]
  simp
theorem Fitting.next {c : Cal} {ts ds : List Int} (h : Fitting c ts ds) {t : Nat} (ht : t < c.room.length) (d : Int) (hl : ts.length < 24) (h1 : (earlD c ts ds t d).2 = true) : Fitting c (ts ++ [(t : Int)]) (ds ++ [(earlD c ts ds t d).1]) := by
  rw [(h.early ht d).2] at h1 ⊢
  rcases firstD_cases d (suitB c (loadN c (ts.zip ds)) t) c.wins 0 with ⟨e, _⟩ | ⟨j, hj, e, ⟨h2, h3⟩, _⟩
  · rw [e] at h1; cases h1
  · rw [e]
    rw [Nat.zero_add] at h3
    unfold suitB at h3
    rw [List.getElem?_eq_getElem hj, List.getElem?_eq_getElem ht] at h3
    simp only [Option.map_some, Option.getD_some, Bool.and_eq_true, decide_eq_true_eq] at h3
    exact h.snoc hl ht hj (by show _ ≤ max d _; omega) h2 h3.1 h3.2
end Go.Proofs.Ytpbahffkhpfakaa

namespace Go.Proofs.Ytpbahffkhpfakaa
open Go.RowKit
set_option linter.unusedSimpArgs false
set_option linter.unusedVariables false

/-- a world without the blocks from B on -/
def trunc (w : World) (B : Nat) : World := { w with heap := w.heap.extract 0 B }
theorem trunc_size {w : World} {B : Nat} (h : B ≤ w.heap.size) : (trunc w B).heap.size = B := by simp [trunc]; omega
theorem trunc_below {w : World} {B : Nat} (h : B ≤ w.heap.size) : Below B (trunc w B) w := ⟨rfl, rfl, rfl, by rw [trunc_size h]; exact h, fun k hk => by
  show w.heap[k]? = (w.heap.extract 0 B)[k]?
  rw [Array.getElem?_extract, if_pos (by omega), Nat.zero_add]⟩
theorem reg_of {w : World} {B : Nat} {a b : Value} {la lb : List Int} (h : B ≤ w.heap.size) (ha : OwnInts w B a la) (hb : OwnInts w B b lb) (hab : Apart a b) : Reg4 (trunc w B) w a la b lb (.slice none 0 0) [] (.slice none 0 0) [] := by
  have hs := trunc_size h
  refine ⟨by rw [hs]; exact trunc_below h, by rw [hs]; exact ha, by rw [hs]; exact hb, World.ownsRow_nil _ _ _ _, World.ownsRow_nil _ _ _ _, hab, (Apart.nil _).symm, (Apart.nil _).symm, (Apart.nil _).symm, (Apart.nil _).symm, Apart.nil _⟩
theorem trunc_dg {p B : Nat} {w w' : World} (h : B ≤ w.heap.size) (hp : p < B) (hd : DiceAt w p) (hb : Below B (trunc w B) w') : Below B w w' ∧ DiceAt w' p ∨ w'.heap.size < w.heap.size := by
  by_cases hs : w.heap.size ≤ w'.heap.size
  · left
    have h1 := trunc_below h
    have hbw : Below B w w' := ⟨hb.os, hb.tape, hb.output, hs, fun k hk => (hb.block k hk).trans (h1.block k hk).symm⟩
    exact ⟨hbw, hd.below (hbw.mono (by omega))⟩
  · exact .inr (by omega)

theorem DiceAt.blocks {w w' : World} {p : Nat} (h : DiceAt w p) (hs : p < w'.heap.size) (hb : ∀ k, k ≤ p → w'.heap[k]? = w.heap[k]?) : DiceAt w' p := by
  obtain ⟨hp, a, len, cap, at', c0, c1, f1, h1, h2, hr⟩ := h
  refine ⟨hs, a, len, cap, at', (World.cell?_of_block (a := ⟨p, 0, none⟩) (hb p (Nat.le_refl _))).trans c0, (World.cell?_of_block (a := ⟨p, 1, none⟩) (hb p (Nat.le_refl _))).trans c1, (World.frozen?_of_block (a := ⟨p, 1, none⟩) (hb p (Nat.le_refl _))).trans f1, h1, h2, ?_⟩
  rcases hr with hr | ⟨b, off, rfl, hbp, hc⟩
  · exact .inl hr
  · refine .inr ⟨b, off, rfl, hbp, fun i hi => ?_⟩
    obtain ⟨z, hz, hcell⟩ := hc i hi
    exact ⟨z, hz, (World.cell?_of_block (a := ⟨b, off + i, none⟩) (hb b (by omega))).trans hcell⟩
theorem reg_dg {p : Nat} {w4 w w' : World} {a b c d : Value} {la lb lc ld : List Int} (hd : Dg p w4 w) (hp : p < w4.heap.size) (h : Reg4 (trunc w w4.heap.size) w' a la b lb c lc d ld) : Dg p w4 w' ∧ OwnInts w' w4.heap.size a la ∧ OwnInts w' w4.heap.size b lb ∧ Apart a b := by
  have hs := trunc_size hd.size
  have h1 := trunc_below hd.size
  have hb := h.bel
  rw [hs] at hb
  have hsz : w4.heap.size ≤ w'.heap.size := by have := hb.size; rw [hs] at this; exact this
  have hk : ∀ k, k < w4.heap.size → w'.heap[k]? = w.heap[k]? := fun k hk => (hb.block k hk).trans (h1.block k hk).symm
  have ha := h.oa
  have hbb := h.ob
  rw [hs] at ha hbb
  exact ⟨⟨hb.os.trans hd.os, hb.tape.trans hd.tape, hb.output.trans hd.output, hsz, fun k h2 h3 => (hk k h3).trans (hd.block k h2 h3), hd.dice.blocks (by omega) (fun k h2 => hk k (by omega))⟩, ha, hbb, h.ab⟩

theorem heap_other {w : World} {x : Addr} {v : Value} {k : Nat} (h : k ≠ x.block) : (w.setCell x v).heap[k]? = w.heap[k]? := by
  have h2 : ¬ x.block = k := fun e => h e.symm
  simp [World.setCell, Array.getElem?_modify, h2]
theorem results_cell_row2 {P : Program} {fn : Func} {p u v : Tmp} {ty : TypeId} (h : fn.results = #[.cell p ty, .tmp u, .tmp v]) (tmps : Array Value) (w : World) (g : Nat) (t : TypeId) (cs : Array Value) (fr : Nat × Nat) (d : TypeDesc)
    (hp : tmps.getD p undef = .pointer (some ⟨g, 0, none⟩)) (hg : w.heap[g]? = some (.cells cs t fr))
    (hu : P.underlying ty = some d) (hd : (match d with | .struct _ | .array _ _ => true | _ => false) = true) (hi : (P.info? ty).map (·.size) = some cs.size) :
    (results fn tmps).run P w = .ok (.tuple #[.agg cs, tmps.getD u undef, tmps.getD v undef]) w := by
  have hp' : tmps[p]?.getD undef = .pointer (some ⟨g, 0, none⟩) := by simpa using hp
  simp [results, h, hp', asAddr, Sem.run_bind, Result.andThen, run_loadVar_row w g t ty cs fr d hg hu hd hi]
theorem fill_fin {p : Nat} {w w2 w4 wr : World} {c : Cal} {v0 v1 v2 va vb : Value} {ts ds : List Int} (hps : p < w.heap.size) (h02 : Dg p w w2) (h24 : Dg p w2 w4) (hs2 : w.heap.size < w2.heap.size) (dw : Dg p w4 wr)
    (hR : wr.heap[w.heap.size]? = some zeroCal) (o1 : OwnInts wr w4.heap.size va ts) (o2 : OwnInts wr w4.heap.size vb ds) (hfar : CalFar (w.heap.size + 1) w2 c) :
    Dg p w (((wr.setCell ⟨w.heap.size, 0, none⟩ v0).setCell ⟨w.heap.size, 1, none⟩ v1).setCell ⟨w.heap.size, 2, none⟩ v2) ∧
    (((wr.setCell ⟨w.heap.size, 0, none⟩ v0).setCell ⟨w.heap.size, 1, none⟩ v1).setCell ⟨w.heap.size, 2, none⟩ v2).heap[w.heap.size]? = some (.cells #[v0, v1, v2] 25 (0, 0)) ∧
    CalKept p (((wr.setCell ⟨w.heap.size, 0, none⟩ v0).setCell ⟨w.heap.size, 1, none⟩ v1).setCell ⟨w.heap.size, 2, none⟩ v2) c ∧
    ∀ W, Dg p (((wr.setCell ⟨w.heap.size, 0, none⟩ v0).setCell ⟨w.heap.size, 1, none⟩ v1).setCell ⟨w.heap.size, 2, none⟩ v2) W → OwnInts W w4.heap.size va ts ∧ OwnInts W w4.heap.size vb ds := by
  have hs := h24.size
  have hs3 := dw.size
  have h1 := heap_set hR 0 v0
  have h2 := heap_set h1 1 v1
  have h3 := heap_set h2 2 v2
  have key : ∀ {v : Value} {l : List Int}, OwnInts wr w4.heap.size v l → OwnInts (((wr.setCell ⟨w.heap.size, 0, none⟩ v0).setCell ⟨w.heap.size, 1, none⟩ v1).setCell ⟨w.heap.size, 2, none⟩ v2) w4.heap.size v l := fun ho =>
    ownsRow_setCell_other (ownsRow_setCell_other (ownsRow_setCell_other ho (own_ne ho hR (by decide)) _) (own_ne ho hR (by decide)) _) (own_ne ho hR (by decide)) _
  have hk : ∀ k, k ≠ w.heap.size → (((wr.setCell ⟨w.heap.size, 0, none⟩ v0).setCell ⟨w.heap.size, 1, none⟩ v1).setCell ⟨w.heap.size, 2, none⟩ v2).heap[k]? = wr.heap[k]? := fun k hk => by
    rw [heap_other (by exact hk), heap_other (by exact hk), heap_other (by exact hk)]
  have hz : (((wr.setCell ⟨w.heap.size, 0, none⟩ v0).setCell ⟨w.heap.size, 1, none⟩ v1).setCell ⟨w.heap.size, 2, none⟩ v2).heap.size = wr.heap.size := by simp [World.setCell]
  have k1 := key o1
  have k2 := key o2
  have d0r := (h02.trans h24).trans dw
  refine ⟨⟨d0r.os, d0r.tape, d0r.output, by rw [hz]; exact d0r.size, fun k g1 g2 => (hk k (by omega)).trans (d0r.block k g1 g2), dw.dice.blocks (by omega) (fun k g => hk k (by omega))⟩, h3, fun W hW => ?_, fun W hW => ⟨own_dg (by omega) k1 hW, own_dg (by omega) k2 hW⟩⟩
  have hWs := hW.size
  refine hfar W (by omega) fun k g1 g2 => ?_
  rw [hW.block k (by omega) (by omega), hk k (by omega), dw.block k (by omega) (by omega), h24.block k (by omega) g2]

def FillOut (p : Nat) (w : World) (e : Ending) (w' : World) : Prop :=
  ∃ (c : Cal) (va vb : Value) (ts ds : List Int), e = .returned (.tuple #[c.val, va, vb]) ∧ Drawn c 3 ∧ Fitting c ts ds ∧ ts.length ≤ 6 ∧ Dg p w w' ∧ CalKept p w' c ∧ (∀ W, Dg p w' W → IntsAt W va ts ∧ IntsAt W vb ds) ∧ NilOk va ∧ NilOk vb

set_option maxRecDepth 100000 in
set_option maxHeartbeats 8000000 in
theorem fill_any (p : Nat) (w : World) (h : DiceAt w p) :
    Calls Try.prog 30 #[.pointer (some ⟨p, 0, none⟩)] w fun e w' => FillOut p w e w' := by
  have hp := h.1
  have D0 := Lib.hid (Dg.refl h)
  have hR := heap_new w zeroCal
  have D1 := Lib.hid (D0.out.alloc zeroCal)
  unfold zeroCal at hR D1
  have HR := Lib.hid hR
  clear hR
  go_enter Try.func30, Try.ntmps30
  go_wp2_with fail
  have hs0 : (w.alloc (.cells #[.slice none 0 0, .slice none 0 0, .slice none 0 0] 25)).heap.size = w.heap.size + 1 := by simp
  generalize w.alloc (.cells #[.slice none 0 0, .slice none 0 0, .slice none 0 0] 25) = W1 at *
  have HS1 := Lib.hid hs0
  clear hs0
  refine (cal_any p 3 W1 D1.out.dice (by decide)).mono ?_
  rintro e w2 ⟨c, rfl, hD, hdg, hck, hfar⟩
  have hD2 := hdg.dice
  have hps : p < w2.heap.size := by have := hdg.size; have := HS1.out; omega
  have hsz2 : w.heap.size < w2.heap.size := by have := hdg.size; have := HS1.out; omega
  have hcal := hck.now hD2
  have HR2 := Lib.hid ((hdg.block w.heap.size (by omega) (by have := HS1.out; omega)).trans HR.out)
  have HFAR := Lib.hid (show CalFar (w.heap.size + 1) w2 c by rw [← HS1.out]; exact hfar)
  clear hfar
  have HD := Lib.hid hD
  have HCK := Lib.hid hck
  have HDG := Lib.hid (D1.out.trans hdg)
  obtain ⟨wa, wcp, ta, tc, ra, rc, hS⟩ := hcal.shape
  have HSH := Lib.hid hS
  have HIN := Lib.hid (fun (W : World) (hk : Dg p (w2.alloc (.cells #[.slice wa c.wins.length wcp, .slice ta c.team.length tc, .slice ra c.room.length rc] 25)) W) => kept_in (c := c) 25 hck hps hD2 (by rw [hS.e1, hS.e2, hS.e3]; exact hk))
  have D3 := Lib.hid ((Dg.refl hD2).alloc (.cells #[.slice wa c.wins.length wcp, .slice ta c.team.length tc, .slice ra c.room.length rc] 25 ))
  rw [hS.val]
  have hs3 : (w2.alloc (.cells #[.slice wa c.wins.length wcp, .slice ta c.team.length tc, .slice ra c.room.length rc] 25)).heap.size = w2.heap.size + 1 := by simp
  have HS3 := Lib.hid hs3
  have HROOM := Lib.hid (show c.room.length = 2 by obtain ⟨x, y, e, _⟩ := hD.room; rw [e]; rfl)
  clear hD hdg hck hD2 hcal hS hs3 HR HS1 D1
  go_wp2_with fail
  generalize w2.alloc (.cells #[.slice wa c.wins.length wcp, .slice ta c.team.length tc, .slice ra c.room.length rc] 25) = W3 at *
  refine (next_any p 7 W3 D3.out.dice (by decide) (by decide)).mono ?_
  rintro e w4 ⟨⟨k0, hk0, rfl⟩, hk⟩
  have D4 := Lib.hid (Dg.refl hk.dg.dice)
  have HIN4 := Lib.hid (fun (W : World) (hW : Dg p w4 W) => HIN.out W (hk.dg.trans hW))
  have HCK4 := Lib.hid (HCK.out.soft (D3.out.trans hk.dg))
  have HDG4 := Lib.hid (HDG.out.trans (D3.out.trans hk.dg))
  have HR4 := Lib.hid (((D3.out.trans hk.dg).block w.heap.size (by omega) hsz2).trans HR2.out)
  have HW4 := Lib.hid (show w2.heap.size < w4.heap.size by rw [hk.size]; have := HS3.out; omega)
  have HK0 := Lib.hid hk0
  have H02 := Lib.hid HDG.out
  have H24 := Lib.hid (D3.out.trans hk.dg)
  clear hk hk0 HIN HCK HDG D3 HS3 HR2
  go_wp2_with fail
  go_loopg [6, 7, 8] k0 (fun gg s6 s7 s8 wr => ∃ (i : Nat) (ts ds : List Int), i ≤ gg ∧ s8 = .int .i64 i ∧ Aside (i + ts.length ≤ 6) ∧ Aside (Dg p w4 wr) ∧ Aside (OwnInts wr w4.heap.size s6 ts) ∧ Aside (OwnInts wr w4.heap.size s7 ds) ∧ Aside (Apart s6 s7) ∧ Aside (Fitting c ts ds))
  case atStart => exact ⟨k0, [], [], Nat.le_refl _, rfl, (show k0 + 0 ≤ 6 by have := HK0.out; omega), D4.out, World.ownsRow_nil _ _ _ _, World.ownsRow_nil _ _ _ _, Apart.nil _, fitting_nil HD.out⟩
  case round =>
    obtain ⟨i, ts, ds, hi, rfl, HI, DW, O1, O2, AP, FT⟩ := hrel
    by_cases hip : 0 < i
    · have hiz : (0 : Int) < (i : Int) := by omega
      go_wp2_with fail
      refine (next_any p 2 wr DW.out.dice (by decide) (by decide)).mono ?_
      rintro e w5 ⟨⟨t, ht, rfl⟩, hk⟩
      have DW5 := Lib.hid (DW.out.trans hk.dg)
      have HT := Lib.hid (show t < c.room.length by have := HROOM.out; omega)
      have hpw : p < w4.heap.size := by have := HW4.out; omega
      have P1 := Lib.hid (own_dg hpw O1.out hk.dg)
      have P2 := Lib.hid (own_dg hpw O2.out hk.dg)
      clear hk ht DW O1 O2
      have HSK := Lib.hid (fun (W : World) (hW : Dg p w4 W) => show W.cell? ⟨w2.heap.size, 0, none⟩ = some (.slice wa c.wins.length wcp) ∧ W.cell? ⟨w2.heap.size, 1, none⟩ = some (.slice ta c.team.length tc) ∧ W.cell? ⟨w2.heap.size, 2, none⟩ = some (.slice ra c.room.length rc) from by
        have hL := HIN4.out W hW
        exact ⟨by rw [← HSH.out.e1]; exact hL.d0, by rw [← HSH.out.e2]; exact hL.d1, by rw [← HSH.out.e3]; exact hL.d2⟩)
      have HLEN := Lib.hid (load_ok FT.out.ok).1
      have HEA := Lib.hid (fun (W : World) (x : Int) (hW : Dg p w4 W) (h1 : OwnInts W w4.heap.size u6 ts) (h2 : OwnInts W w4.heap.size u7 ds) => show Calls Try.prog 24 #[.agg #[.slice wa c.wins.length wcp, .slice ta c.team.length tc, .slice ra c.room.length rc], u6, u7, .int .i64 t, .int .i64 x] W fun e w' => e = .returned (.tuple #[.int .i64 (earlD c ts ds t x).1, .bool (earlD c ts ds t x).2, .int .i64 0]) ∧ Below W.heap.size W w' from by
        have hr := rearl_any c u6 u7 ts ds t x W (HCK4.out W hW) (h1.at (by have := HI.out; omega)) (h2.at (by have := HI.out; have := HLEN.out; omega))
        rw [(FT.out.early HT.out x).1, HSH.out.val] at hr
        exact hr)
      have DW5d := Lib.hid DW5.out.drew
      go_wp2_with fail
      go_region_held3 (fun W => W.cell? ⟨w2.heap.size, 0, none⟩ = some (.slice wa c.wins.length wcp) ∧ W.cell? ⟨w2.heap.size, 1, none⟩ = some (.slice ta c.team.length tc) ∧ W.cell? ⟨w2.heap.size, 2, none⟩ = some (.slice ra c.room.length rc)) (first | exact HSK.out _ DW5d.out | exact HSK.out _ DW6.out | exact HSK.out _ DW7.out) (first
        | (go_simp; go_at_call 12; refine (next_any p 30 _ DW5d.out.dice (by decide) (by decide)).mono ?_; rintro e w6 ⟨⟨r, hr, rfl⟩, hk6⟩; have DW6 := Lib.hid (DW5d.out.trans hk6.dg); have Q1 := Lib.hid (own_dg hpw P1.out.drew hk6.dg); have Q2 := Lib.hid (own_dg hpw P2.out.drew hk6.dg); clear hk6 hr)
        | (go_simp; go_at_call 24; refine (HEA.out w6 (r : Int) DW6.out Q1.out Q2.out).mono ?_; rintro e w7 ⟨rfl, hb⟩; have DW7 := Lib.hid (DW6.out.trans (Dg.of_below hb DW6.out.dice)); have R1 := Lib.hid (own_dg hpw Q1.out (Dg.of_below hb DW6.out.dice)); have R2 := Lib.hid (own_dg hpw Q2.out (Dg.of_below hb DW6.out.dice)); clear hb))
      have HNX := Lib.hid (fun (h : (earlD c ts ds t r).2 = true) => FT.out.next HT.out r (by have := HI.out; omega) h)
      have HI1 := Lib.hid (congrArg (Value.int .i64) (show wrap64 ((i : Int) - 1) = ((i - 1 : Nat) : Int) by unfold wrap64; have h2 := HI.out; omega))
      have HL1 := Lib.hid (show ts.length ≤ 900 by have := HI.out; omega)
      have HL2 := Lib.hid (show ds.length ≤ 900 by have := HI.out; have := HLEN.out; omega)
      generalize earlD c ts ds t r = z at *
      obtain ⟨zd, zb⟩ := z
      simp only at *
      clear HEA DW5 DW5d P1 P2 Q1 Q2 DW6 HSK
      cases zb with
      | false =>
        go_wp2_with fail
        go_roundg (i - 1)
        case measure => omega
        case rel => exact ⟨i - 1, ts, ds, by omega, (by first | exact HI1.out | exact congrArg (Value.int .i64) (by omega)), (show i - 1 + ts.length ≤ 6 by have := HI.out; omega), DW7.out, R1.out, R2.out, AP.out, FT.out⟩
      | true =>
        have F2 := Lib.hid (HNX.out rfl)
        have X1 := Lib.hid ((reg_of DW7.out.size R1.out R2.out AP.out).more 22 (t : Int) _ rfl HL1.out)
        clear HNX
        go_wp2_with (first
          | (at_builtin; refine wl_app rfl _ _ rfl rfl rfl X1.out ?_; intro v1 w8 R3; have X3 := Lib.hid (R3.swap12.more 22 zd _ rfl HL2.out); clear R3 X1)
          | (at_builtin; refine wl_app rfl _ _ rfl rfl rfl X3.out ?_; intro v2 w9 R4; have R5 := Lib.hid (reg_dg DW7.out hpw R4.swap12); clear R4 X3))
        go_roundg (i - 1)
        case measure => omega
        case rel =>
          have h5 := R5.out
          exact ⟨i - 1, _, _, by omega, (by first | exact HI1.out | exact congrArg (Value.int .i64) (by omega)), (show i - 1 + (ts ++ [(t : Int)]).length ≤ 6 by have := HI.out; simp; omega), h5.1, h5.2.1, h5.2.2.1, h5.2.2.2, F2.out⟩
    · have hiz : ¬ (0 : Int) < (i : Int) := by omega
      have hcc := HIN4.out wr DW.out
      have hd : wr.cell? ⟨w2.heap.size, 0, none⟩ = some (.slice wa c.wins.length wcp) ∧ wr.cell? ⟨w2.heap.size, 1, none⟩ = some (.slice ta c.team.length tc) ∧ wr.cell? ⟨w2.heap.size, 2, none⟩ = some (.slice ra c.room.length rc) := ⟨by rw [← HSH.out.e1]; exact hcc.d0, by rw [← HSH.out.e2]; exact hcc.d1, by rw [← HSH.out.e3]; exact hcc.d2⟩
      have hRr := (DW.out.block w.heap.size (by omega) (by have := HW4.out; omega)).trans HR4.out
      have d0 := heap_cell hRr 0
      have d1 := heap_cell hRr 1
      have d2 := heap_cell hRr 2
      have g0 := heap_free hRr 0
      have g1 := heap_free hRr 1
      have g2 := heap_free hRr 2
      have HRR := Lib.hid hRr
      have hfin := fill_fin (v0 := .slice wa c.wins.length wcp) (v1 := .slice ta c.team.length tc) (v2 := .slice ra c.room.length rc) hp H02.out H24.out hsz2 DW.out hRr O1.out O2.out HFAR.out
      have HH := Lib.hid hfin.2.1
      have F1 := Lib.hid hfin.1
      have F3 := Lib.hid hfin.2.2.1
      have F4 := Lib.hid hfin.2.2.2
      have N12 := Lib.hid (show NilOk u6 ∧ NilOk u7 from ⟨(reg_of DW.out.size O1.out O2.out AP.out).nilA, (reg_of DW.out.size O1.out O2.out AP.out).swap12.nilA⟩)
      clear hcc hRr hfin
      go_wp2_with fail
      refine bodyPost_ret (v := .tuple #[.agg #[.slice wa c.wins.length wcp, .slice ta c.team.length tc, .slice ra c.room.length rc], u6, u7]) ?hr rfl ?_
      case hr => exact results_cell_row2 (P := Try.prog) (fn := Try.f30) (p := 2) (u := 3) (v := 4) rfl _ _ w.heap.size 25 _ (0, 0) _ rfl HH.out Try.underlying25 rfl infoCal
      have h6 : ts.length ≤ 6 := by have := HI.out; omega
      exact ⟨c, u6, u7, ts, ds, by rw [HSH.out.val], HD.out, FT.out, h6, F1.out, F3.out, fun W hW => ⟨(F4.out W hW).1.at (by omega), (F4.out W hW).2.at (by have := (load_ok FT.out.ok).1; omega)⟩, N12.out.1, N12.out.2⟩
end Go.Proofs.Ytpbahffkhpfakaa


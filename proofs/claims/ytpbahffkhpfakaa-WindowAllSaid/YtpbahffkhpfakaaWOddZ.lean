import Derived.Test.YtpbahffkhpfakaaZ1
import Derived.Test.YtpbahffkhpfakaaRAtZ
import Derived.Deep.CutBlock
namespace Go.Proofs.Ytpbahffkhpfakaa
open Go.RowKit
set_option linter.unusedSimpArgs false
set_option linter.unusedVariables false

/-! ## A calendar that is changed in one thing -/

def kd7 (p s g1 n m1 : Nat) : Nat → Kd
  | 25 => .eqv (.pointer (some ⟨s, 0, none⟩))
  | 26 => .eqv (.slice (some ⟨g1, 0, none⟩) n m1)
  | 27 => .eqv (.pointer (some ⟨p, 0, none⟩))
  | 28 => .own [-1, 5, 40000]
  | 29 => .int1
  | 30 => .eqv (.pointer (some ⟨p, 0, none⟩))
  | 31 => .own [5, 40001, 40002]
  | 32 => .int1
  | 33 => .pair
  | 34 => .eqv (.pointer (some ⟨g1, 0, none⟩))
  | 35 => .eqv (.pointer (some ⟨g1, 0, none⟩))
  | _ => .nothing
def kd9 (p s g1 n m1 : Nat) : Nat → Kd
  | 38 => .eqv (.pointer (some ⟨s, 0, none⟩))
  | 39 => .eqv (.slice (some ⟨g1, 0, none⟩) n m1)
  | 40 => .own [1, 0]
  | 41 => .own [0, 0]
  | 42 => .own [2]
  | 43 => .own [-1]
  | 44 => .rows 4
  | 45 => .eqv (.pointer (some ⟨p, 0, none⟩))
  | 46 => .num 4
  | 47 => .rowp
  | 48 => .team
  | 49 => .eqv (.pointer (some ⟨g1, 0, none⟩))
  | 50 => .eqv (.pointer (some ⟨g1, 2, none⟩))
  | _ => .nothing
def eq13 (s g1 n m1 : Nat) (xv : Value) : Nat → Option Value
  | 64 => some (.pointer (some ⟨s, 0, none⟩))
  | 65 => some (.slice (some ⟨g1, 0, none⟩) n m1)
  | 66 => some (.pointer (some ⟨s, 0, none⟩))
  | 67 => some (.slice (some ⟨g1, 0, none⟩) n m1)
  | 68 => some (.pointer (some ⟨g1, 0, none⟩))
  | 69 => some xv
  | 72 => some (.pointer (some ⟨s, 0, none⟩))
  | _ => none
set_option maxRecDepth 100000 in
set_option maxHeartbeats 8000000 in
theorem odd_any (p q : Nat) (c : Cal) (w : World) (h : DiceAt w p) (hfar : CalFar q w c) (hq : p ≤ q) (hD : Drawn c 3) :
    Calls Try.prog 13 #[.pointer (some ⟨p, 0, none⟩), c.val] w fun e w' => ∃ c', e = .returned c'.val ∧ CalAt w' c' ∧ Dg p w w' := by
  have hp := h.1
  obtain ⟨oT, oR, oS, oW⟩ := hfar.old hq
  have hcal : CalAt w c := hfar w (Nat.le_refl _) fun _ _ _ => rfl
  obtain ⟨wa, wc, ta, tc, ra, rc, hS⟩ := hcal.shape
  have hne : c.wins ≠ [] := fun e => by have := hD.few; rw [e] at this; simp at this
  have hner : c.room ≠ [] := fun e => by obtain ⟨x, y, e2, _⟩ := hD.room; rw [e] at e2; cases e2
  have hl1 : c.room.length = 2 := by obtain ⟨x, y, e2, _⟩ := hD.room; rw [e2]; rfl
  have hl2 := hD.few
  have D0 := (Dg.refl h).alloc (.cells #[c.wv, c.tv, c.rv] 25)
  have z1 : (w.alloc (.cells #[c.wv, c.tv, c.rv] 25)).heap.size = w.heap.size + 1 := by simp
  have n1 := heap_new w (.cells #[c.wv, c.tv, c.rv] 25)
  have D1 := D0.alloc zeroCal
  have n2 := heap_new (w.alloc (.cells #[c.wv, c.tv, c.rv] 25)) zeroCal
  rw [z1] at n2
  have n3 := (((Dg.refl D0.dice).alloc zeroCal).block w.heap.size (by omega) (by omega)).trans n1
  have z2 : ((w.alloc (.cells #[c.wv, c.tv, c.rv] 25)).alloc zeroCal).heap.size = w.heap.size + 1 + 1 := by simp
  have X1 := Lib.hid (odd_first 23 D1 hp n3 n2 (oW _ D1.size fun k g1 g2 => D1.block k g1 g2) hne (by omega))
  have X0 := Lib.hid (fun (ty : TypeId) (W : World) (v1 : Value) (hd : Dg p w W) (oB : W.heap[w.heap.size]? = some (.cells #[v1, c.tv, c.rv] 25 (0, 0))) (oRR : W.heap[w.heap.size + 1]? = some zeroCal) (ow : OwnWins W w.heap.size v1 c.wins) => odd_second ty hd hp oB oRR ow (oR W hd.size fun k g1 g2 => hd.block k g1 g2) hner oT oS (show c.wins.length ≤ 900 ∧ c.room.length ≤ 900 by omega))
  have d0 := heap_cell n3 0
  have d1 := heap_cell n3 1
  have d2 := heap_cell n3 2
  have f0 := heap_free n3 0
  clear D0 D1 n1 n2 n3 z1 z2 oW
  have HTS := Lib.hid oS
  have HL1 := Lib.hid hl1
  have HL2 := Lib.hid hl2
  have HNE := Lib.hid hne
  clear hcal hfar oR oS hl2 hne hner
  unfold zeroCal at X1 d0 d1 d2 f0
  rw [hS.val]
  rw [hS.e1, hS.e2, hS.e3] at X1 d0 d1 d2 f0
  rw [hS.e2, hS.e3] at X0
  rw [hS.e2] at oT
  have HT := Lib.hid oT
  rw [hl1] at X0 X1 d0 d1 d2 f0 ⊢
  clear hS oT hl1
  go_enter Try.func13, Try.ntmps13
  go_wp2_with (first
    | (at_builtin; refine wl_appW rfl _ _ rfl rfl rfl X1.out ?_; rintro v1 w8 ⟨q1, q2, q3, q4, ⟨a1, n1, m1, rfl⟩, q5⟩; have X2 := Lib.hid (X0.out 22 _ _ q1 q2 q3 q4); have e0 := heap_cell q5 0; have e1 := heap_cell q5 1; have e2 := heap_cell q5 2; have g0 := heap_free q5 0; clear q1 q2 q3 q4 q5 X1 d0 d1 d2 f0)
    | (at_builtin; refine wl_app rfl _ _ rfl rfl rfl X2.out ?_; rintro v2 w9 ⟨q1, ⟨a2, m2, rfl⟩, q5⟩; have PP := Lib.hid q1; have e0 := heap_cell q5 0; have e1 := heap_cell q5 1; have e2 := heap_cell q5 2; have g2 := heap_free q5 2; clear q1 q5 X2))
  generalize w9.setCell ⟨w.heap.size, 2, none⟩ (.slice a2 2 m2) = W2 at *
  refine (next_any p 8 W2 PP.out.dg.dice (by decide) (by decide)).mono ?_
  rintro e w3 ⟨⟨r, hr, rfl⟩, hk⟩
  have P3 := Lib.hid (PP.out.soft hk.dg)
  have HR := Lib.hid (show (r : Int) = 0 ∨ (r : Int) = 1 ∨ (r : Int) = 2 ∨ (r : Int) = 3 ∨ (r : Int) = 4 ∨ (r : Int) = 5 ∨ (r : Int) = 6 ∨ (r : Int) = 7 by omega)
  clear hk PP X0 e0 e1 e2 g2 hr
  generalize (r : Int) = z at *
  have HNL := Lib.hid (show (0 : Int) < ((c.wins.length : Nat) : Int) by have := HL2.out; omega)
  have HN0 := Lib.hid (show 0 < c.wins.length by have := HL2.out; omega)
  obtain ⟨g1, cap1, q1⟩ := own_some P3.out.ow HN0.out
  simp only [Value.slice.injEq] at q1
  obtain ⟨rfl, rfl, rfl⟩ := q1
  obtain ⟨g2, cap2, q2⟩ := own_some P3.out.orr (show 0 < c.room.length by have := HL1.out; omega)
  simp only [Value.slice.injEq] at q2
  obtain ⟨rfl, -, rfl⟩ := q2
  have HR0 := Lib.hid (show 0 < c.room.length by have := HL1.out; omega)
  have HRZ := Lib.hid (show (0 : Int) < ((c.room.length : Nat) : Int) by have := HL1.out; omega)
  have HRE := Lib.hid (show c.room ≠ [] from fun e => by have := HR0.out; rw [e] at this; simp at this)
  have HTL := Lib.hid hD.team
  have HTE := Lib.hid (show c.team ≠ [] from fun e => by have := HTL.out; rw [e] at this; simp at this)
  go_upto_block 0 with fail
  go_cut [15] from 15 to 76 (fun s15 wx => ∃ c' : Cal, Aside (OddP p w wx c'))
  case rest =>
    obtain ⟨c', Q⟩ := hcut
    obtain ⟨xa, xn, xm, ya, yn, ym, za, zn, zm, e1, e2, e3⟩ := Q.out.forms
    have hB := Q.out.oB
    have hR := Q.out.oR
    have hfin := Q.out.done
    unfold zeroCal at hR
    have HV := Lib.hid (show c'.val = .agg #[.slice xa xn xm, .slice ya yn ym, .slice za zn zm] by unfold Cal.val; rw [e1, e2, e3])
    rw [e1, e2, e3] at hB hfin
    have c0 := heap_cell hB 0
    have c1 := heap_cell hB 1
    have c2 := heap_cell hB 2
    have d0 := heap_cell hR 0
    have d1 := heap_cell hR 1
    have d2 := heap_cell hR 2
    have g0 := heap_free hR 0
    have g1 := heap_free hR 1
    have g2 := heap_free hR 2
    have F1 := Lib.hid hfin.1
    have HH := Lib.hid hfin.2.1
    have F3 := Lib.hid hfin.2.2
    clear hB hR hfin e1 e2 e3
    go_wp2_with fail
    refine bodyPost_ret (v := .agg #[.slice xa xn xm, .slice ya yn ym, .slice za zn zm]) (results_cell_row rfl _ _ (w.heap.size + 1) 25 _ (0, 0) _ rfl HH.out Try.underlying25 rfl infoCal) rfl ?_
    exact ⟨c', by rw [HV.out], F3.out, F1.out⟩
  case first =>
    rcases HR.out with rfl | rfl | rfl | rfl | rfl | rfl | rfl | rfl
    · have hd3 := P3.out.dg.dice
      have KS := Lib.hid (fun (W : World) (hW : Dg p w3 W) => show W.cell? ⟨w.heap.size, 2, none⟩ = some (.slice (some ⟨g2, 0, none⟩) 2 m2) from heap_cell (P3.out.soft hW).oB 2)
      have KG := Lib.hid (fun (W : World) (hW : Dg p w3 W) => (P3.out.soft hW).roomCell (g := g2) rfl HR0.out)
      have KT := Lib.hid (fun (W : World) (x : Int) (hW : Dg p w3 W) => (P3.out.soft hW).roomSet (g := g2) rfl HT.out HTS.out 0 HR0.out x)
      have D3 := Lib.hid (Dg.refl hd3).drew
      have D4 := Lib.hid (D3.out.alloc (.cells #[.int .i64 (-1), .int .i64 25, .int .i64 24, .int .i64 0] 3))
      have L4 := Lib.hid (lit_dk (w := w3.drew) (p := p) hd3.1 [-1, 25, 24, 0] (by decide))
      clear hd3
      go_wp2_with fail
      go_region_held3 (fun W => W.cell? ⟨w.heap.size, 2, none⟩ = some (.slice (some ⟨g2, 0, none⟩) 2 m2)) (first | exact KS.out _ D3.out | exact KS.out _ D4.out | exact KS.out _ D5.out | exact heap_cell (KT.out _ _ D5.out).oB 2)
        (first | (go_simp; go_at_call 32; refine (of_any p _ [-1, 25, 24, 0] _ D4.out.dice (by decide) (by decide) L4.out).mono ?_; rintro e w5 ⟨⟨x, hx, rfl⟩, hk⟩; have D5 := Lib.hid (D4.out.trans hk.dg); obtain ⟨⟨z0, hz0⟩, hf0⟩ := KG.out _ D5.out; clear hk hx))
      go_wp2_with fail
      go_meet
      exact ⟨_, KT.out _ _ D5.out⟩
    · go_wp2_with fail
      refine wp_named fun a0 ha0 => ?_
      have z0 : a0.tmps.size = 78 := by rw [ha0]; rfl
      have hlt := lt_of_all (ds := [25, 26, 27, 28, 29, 30, 31, 32, 33, 34, 35]) (n := a0.tmps.size) (by rw [z0]; rfl)
      have e0 : (a0.tmps[0]?).getD undef = .pointer (some ⟨p, 0, none⟩) := by rw [ha0]; rfl
      have e3 : (a0.tmps[3]?).getD undef = .pointer (some ⟨w.heap.size, 0, none⟩) := by rw [ha0]; rfl
      have HA := Lib.hid ha0
      clear ha0
      have hdw := P3.out.dg.dice
      have hps := P3.out.hp
      have hvo : ∀ f k, k ∉ [25, 26, 27, 28, 29, 30, 31, 32, 33, 34, 35] → ((fr a0 [25, 26, 27, 28, 29, 30, 31, 32, 33, 34, 35] f).tmps[k]?).getD undef = (a0.tmps[k]?).getD undef := fun f k hk => fr_at_out hk hlt
      have hvi : ∀ f k, k ∈ [25, 26, 27, 28, 29, 30, 31, 32, 33, 34, 35] → ((fr a0 [25, 26, 27, 28, 29, 30, 31, 32, 33, 34, 35] f).tmps[k]?).getD undef = f k := fun f k hk => fr_at_in hk hlt
      refine region_list [25, 26, 27, 28, 29, 30, 31, 32, 33, 34, 35] (E11 p w.heap.size) (fun d v W => (kd7 p w.heap.size g1 c.wins.length m1 d).holds w.heap.size v W) (fun l f W => TO p w (⟨c.wins, c.team, c.room, .slice (some ⟨g1, 0, none⟩) c.wins.length m1, .slice ta c.team.length tc, .slice (some ⟨g2, 0, none⟩) 2 m2⟩ : Cal) 11 l W) rfl (by kernel_rfl) (by kernel_rfl) (by kernel_rfl) hlt (fun _ _ _ h1 h2 => h1.trans h2) (fun d v w w2 h1 h2 => Kd.keep h1 h2) (E11.refl (hdw.drewN 1)) ?_ ?_ ?_
      · exact ⟨fun _ => P3.out.soft (Dg.refl hdw).drew, fun h => by cases h⟩
      · intro k f W hk hE hT hF
        obtain ⟨c9, h9, _⟩ := hT.post (hk 11 (by decide))
        have H9 := Lib.hid h9
        clear hk hE hT hF h9 hvo hvi e0 e3 hdw hps P3
        have hA := HA.out
        subst hA
        simp only [fr]
        generalize f 25 = f25 at *
        generalize f 26 = f26 at *
        generalize f 27 = f27 at *
        generalize f 28 = f28 at *
        generalize f 29 = f29 at *
        generalize f 30 = f30 at *
        generalize f 31 = f31 at *
        generalize f 32 = f32 at *
        generalize f 33 = f33 at *
        generalize f 34 = f34 at *
        generalize f 35 = f35 at *
        go_wp2_with fail
        go_meet
        exact ⟨c9, H9.out⟩
      · refine ⟨?_, ?_, ?_, ?_, ?_, ?_, ?_, ?_, ?_, ?_, ?_, ?_, trivial⟩
        · refine step_val 25 rfl ?_
          intro l f W hE hT hl hd hF
          refine ⟨.pointer (some ⟨w.heap.size, 0, none⟩), W, ?_, E11.refl hE.dice, hT.soft (Dg.refl hE.dice) (by decide), rfl⟩
          have hv := (hvo f 3 (by decide)).trans e3
          clear hvo hvi hF hd hT
          generalize fr a0 [25, 26, 27, 28, 29, 30, 31, 32, 33, 34, 35] f = A at *
          go_simp
        · refine step_val 26 rfl ?_
          intro l f W hE hT hl hd hF
          refine ⟨.slice (some ⟨g1, 0, none⟩) c.wins.length m1, W, ?_, E11.refl hE.dice, hT.soft (Dg.refl hE.dice) (by decide), rfl⟩
          have hv := ((hvi f 25 (by decide)).trans (show f 25 = _ from (hF 0 25 rfl (dep hd 0 ⟨0, .data⟩ rfl rfl))))
          have hc := heap_cell hT.oB 0
          clear hvo hvi hF hd hT
          generalize fr a0 [25, 26, 27, 28, 29, 30, 31, 32, 33, 34, 35] f = A at *
          go_simp
        · refine step_val 27 rfl ?_
          intro l f W hE hT hl hd hF
          refine ⟨.pointer (some ⟨p, 0, none⟩), W, ?_, E11.refl hE.dice, hT.soft (Dg.refl hE.dice) (by decide), rfl⟩
          have hv := (hvo f 0 (by decide)).trans e0
          clear hvo hvi hF hd hT
          generalize fr a0 [25, 26, 27, 28, 29, 30, 31, 32, 33, 34, 35] f = A at *
          go_simp
        · refine step_val 28 rfl ?_
          intro l f W hE hT hl hd hF
          have hsW := hT.hs
          refine ⟨.slice (some ⟨W.heap.size, 0, none⟩) 3 3, W.alloc (.cells #[.int .i64 (-1), .int .i64 5, .int .i64 40000] 3), ?_, ((Dg.refl hE.dice).alloc _).e11 hps hsW, hT.soft ((Dg.refl hE.dice).alloc _) (by decide), (World.ownsRow_lit W #[.int .i64 (-1), .int .i64 5, .int .i64 40000] 3 hsW (by unfold maxLen; omega) rfl)⟩
          clear hvo hvi hF hd hT
          generalize fr a0 [25, 26, 27, 28, 29, 30, 31, 32, 33, 34, 35] f = A at *
          go_simp
        · refine step_call 29 rfl (g := 32) ?_
          intro l f W hE hT hl hd hF
          have ho : OwnInts W w.heap.size (f 28) [-1, 5, 40000] := (hF 3 28 rfl (dep hd 1 ⟨3, .data⟩ rfl rfl))
          refine ⟨#[.pointer (some ⟨p, 0, none⟩), f 28], ?_, ?_⟩
          · have hv := ((hvi f 27 (by decide)).trans (show f 27 = _ from (hF 2 27 rfl (dep hd 0 ⟨2, .data⟩ rfl rfl))))
            have hv2 := hvi f 28 (by decide)
            clear hvo hvi hF hd hT ho
            generalize fr a0 [25, 26, 27, 28, 29, 30, 31, 32, 33, 34, 35] f = A at *
            go_simp
          · refine (of_any p (f 28) [-1, 5, 40000] W hE.dice (by decide) (by decide) (fun W2 hW2 => OwnInts.at (own_dg hps ho hW2.dg) (by decide))).mono ?_
            rintro e W2 ⟨⟨x, hx, rfl⟩, hk⟩
            exact ⟨_, rfl, hk.dg.e11 hps hT.hs, hT.soft hk.dg (by decide), ⟨x, rfl⟩⟩
        · refine step_val 30 rfl ?_
          intro l f W hE hT hl hd hF
          refine ⟨.pointer (some ⟨p, 0, none⟩), W, ?_, E11.refl hE.dice, hT.soft (Dg.refl hE.dice) (by decide), rfl⟩
          have hv := (hvo f 0 (by decide)).trans e0
          clear hvo hvi hF hd hT
          generalize fr a0 [25, 26, 27, 28, 29, 30, 31, 32, 33, 34, 35] f = A at *
          go_simp
        · refine step_val 31 rfl ?_
          intro l f W hE hT hl hd hF
          have hsW := hT.hs
          refine ⟨.slice (some ⟨W.heap.size, 0, none⟩) 3 3, W.alloc (.cells #[.int .i64 5, .int .i64 40001, .int .i64 40002] 3), ?_, ((Dg.refl hE.dice).alloc _).e11 hps hsW, hT.soft ((Dg.refl hE.dice).alloc _) (by decide), (World.ownsRow_lit W #[.int .i64 5, .int .i64 40001, .int .i64 40002] 3 hsW (by unfold maxLen; omega) rfl)⟩
          clear hvo hvi hF hd hT
          generalize fr a0 [25, 26, 27, 28, 29, 30, 31, 32, 33, 34, 35] f = A at *
          go_simp
        · refine step_call 32 rfl (g := 32) ?_
          intro l f W hE hT hl hd hF
          have ho : OwnInts W w.heap.size (f 31) [5, 40001, 40002] := (hF 6 31 rfl (dep hd 1 ⟨6, .data⟩ rfl rfl))
          refine ⟨#[.pointer (some ⟨p, 0, none⟩), f 31], ?_, ?_⟩
          · have hv := ((hvi f 30 (by decide)).trans (show f 30 = _ from (hF 5 30 rfl (dep hd 0 ⟨5, .data⟩ rfl rfl))))
            have hv2 := hvi f 31 (by decide)
            clear hvo hvi hF hd hT ho
            generalize fr a0 [25, 26, 27, 28, 29, 30, 31, 32, 33, 34, 35] f = A at *
            go_simp
          · refine (of_any p (f 31) [5, 40001, 40002] W hE.dice (by decide) (by decide) (fun W2 hW2 => OwnInts.at (own_dg hps ho hW2.dg) (by decide))).mono ?_
            rintro e W2 ⟨⟨x, hx, rfl⟩, hk⟩
            exact ⟨_, rfl, hk.dg.e11 hps hT.hs, hT.soft hk.dg (by decide), ⟨x, rfl⟩⟩
        · refine step_val 33 rfl ?_
          intro l f W hE hT hl hd hF
          obtain ⟨xa, ha⟩ : ∃ x : Int, f 29 = .int .i64 x := (hF 4 29 rfl (dep hd 0 ⟨4, .data⟩ rfl rfl))
          obtain ⟨xb, hb⟩ : ∃ x : Int, f 32 = .int .i64 x := (hF 7 32 rfl (dep hd 1 ⟨7, .data⟩ rfl rfl))
          refine ⟨.agg #[.int .i64 xa, .int .i64 xb], W, ?_, E11.refl hE.dice, hT.soft (Dg.refl hE.dice) (by decide), ⟨xa, xb, rfl⟩⟩
          have hv := (hvi f 29 (by decide)).trans ha
          have hv2 := (hvi f 32 (by decide)).trans hb
          clear hvo hvi hF hd hT ha hb
          generalize fr a0 [25, 26, 27, 28, 29, 30, 31, 32, 33, 34, 35] f = A at *
          go_simp
        · refine step_val 34 rfl ?_
          intro l f W hE hT hl hd hF
          refine ⟨.pointer (some ⟨g1, 0, none⟩), W, ?_, E11.refl hE.dice, hT.soft (Dg.refl hE.dice) (by decide), rfl⟩
          have hv := ((hvi f 26 (by decide)).trans (show f 26 = _ from (hF 1 26 rfl (dep hd 0 ⟨1, .data⟩ rfl rfl))))
          have hn := HNL.out
          have hne := HNE.out
          clear hvo hvi hF hd hT
          generalize fr a0 [25, 26, 27, 28, 29, 30, 31, 32, 33, 34, 35] f = A at *
          go_simp
        · refine step_val 35 rfl ?_
          intro l f W hE hT hl hd hF
          refine ⟨.pointer (some ⟨g1, 0, none⟩), W, ?_, E11.refl hE.dice, hT.soft (Dg.refl hE.dice) (by decide), rfl⟩
          have hv := ((hvi f 34 (by decide)).trans (show f 34 = _ from (hF 9 34 rfl (dep hd 0 ⟨9, .data⟩ rfl rfl))))
          clear hvo hvi hF hd hT
          generalize fr a0 [25, 26, 27, 28, 29, 30, 31, 32, 33, 34, 35] f = A at *
          go_simp
        · refine step_skip rfl ?_
          intro l f W hE hT hl hd hF
          have hP := hT.pre hl
          obtain ⟨x, rest, e, k1, k2, k3, k4, k5, k6⟩ := hP.winCells (g := g1) rfl HN0.out
          obtain ⟨xa, xb, hab⟩ : ∃ a b : Int, f 33 = .agg #[.int .i64 a, .int .i64 b] := (hF 8 33 rfl (dep hd 1 ⟨8, .data⟩ rfl rfl))
          have hs := hP.daysSet (g := g1) rfl HN0.out xa xb
          have he := (hP.e11set (g := g1) hE.dice rfl 0 (.int .i64 xa))
          have h1 := hP.winSet (g := g1) rfl 0 (by have := HN0.out; show 0 < c.wins.length * 3; omega) (.int .i64 xa) (⟨xa, x.til, x.tv, x.ts⟩ :: rest) (by rw [e]; rfl) (by rw [e]; rfl) (fun y hy => by
            rcases List.mem_cons.1 hy with rfl | hy
            · exact hP.ts x (by rw [e]; exact List.mem_cons_self)
            · exact hP.ts y (by rw [e]; exact List.mem_cons_of_mem _ hy))
          refine ⟨(W.setCell ⟨g1, 0, none⟩ (.int .i64 xa)).setCell ⟨g1, 1, none⟩ (.int .i64 xb), ?_, he.trans (h1.e11set (g := g1) he.dice rfl 1 (.int .i64 xb)), ⟨(fun h => by cases h), fun _ => hs⟩⟩
          have hv := ((hvi f 35 (by decide)).trans (show f 35 = _ from (hF 10 35 rfl (dep hd 0 ⟨10, .data⟩ rfl rfl))))
          have hv2 := (hvi f 33 (by decide)).trans hab
          clear hvo hvi hF hd hT hP hs he h1 hab e
          generalize fr a0 [25, 26, 27, 28, 29, 30, 31, 32, 33, 34, 35] f = A at *
          go_simp
    · go_wp2_with fail
      refine wp_named fun a0 ha0 => ?_
      have z0 : a0.tmps.size = 78 := by rw [ha0]; rfl
      have hlt := lt_of_all (ds := [38, 39, 40, 41, 42, 43, 44, 45, 46, 47, 48, 49, 50]) (n := a0.tmps.size) (by rw [z0]; rfl)
      have e0 : (a0.tmps[0]?).getD undef = .pointer (some ⟨p, 0, none⟩) := by rw [ha0]; rfl
      have e3 : (a0.tmps[3]?).getD undef = .pointer (some ⟨w.heap.size, 0, none⟩) := by rw [ha0]; rfl
      have HA := Lib.hid ha0
      clear ha0
      have hdw := P3.out.dg.dice
      have hps := P3.out.hp
      have hvo : ∀ f k, k ∉ [38, 39, 40, 41, 42, 43, 44, 45, 46, 47, 48, 49, 50] → ((fr a0 [38, 39, 40, 41, 42, 43, 44, 45, 46, 47, 48, 49, 50] f).tmps[k]?).getD undef = (a0.tmps[k]?).getD undef := fun f k hk => fr_at_out hk hlt
      have hvi : ∀ f k, k ∈ [38, 39, 40, 41, 42, 43, 44, 45, 46, 47, 48, 49, 50] → ((fr a0 [38, 39, 40, 41, 42, 43, 44, 45, 46, 47, 48, 49, 50] f).tmps[k]?).getD undef = f k := fun f k hk => fr_at_in hk hlt
      refine region_list [38, 39, 40, 41, 42, 43, 44, 45, 46, 47, 48, 49, 50] (E11 p w.heap.size) (fun d v W => (kd9 p w.heap.size g1 c.wins.length m1 d).holds w.heap.size v W) (fun l f W => TO p w (⟨c.wins, c.team, c.room, .slice (some ⟨g1, 0, none⟩) c.wins.length m1, .slice ta c.team.length tc, .slice (some ⟨g2, 0, none⟩) 2 m2⟩ : Cal) 13 l W) rfl (by kernel_rfl) (by kernel_rfl) (by kernel_rfl) hlt (fun _ _ _ h1 h2 => h1.trans h2) (fun d v w w2 h1 h2 => Kd.keep h1 h2) (E11.refl (hdw.drewN 1)) ?_ ?_ ?_
      · exact ⟨fun _ => P3.out.soft (Dg.refl hdw).drew, fun h => by cases h⟩
      · intro k f W hk hE hT hF
        obtain ⟨c9, h9, _⟩ := hT.post (hk 13 (by decide))
        have H9 := Lib.hid h9
        clear hk hE hT hF h9 hvo hvi e0 e3 hdw hps P3
        have hA := HA.out
        subst hA
        simp only [fr]
        generalize f 38 = f38 at *
        generalize f 39 = f39 at *
        generalize f 40 = f40 at *
        generalize f 41 = f41 at *
        generalize f 42 = f42 at *
        generalize f 43 = f43 at *
        generalize f 44 = f44 at *
        generalize f 45 = f45 at *
        generalize f 46 = f46 at *
        generalize f 47 = f47 at *
        generalize f 48 = f48 at *
        generalize f 49 = f49 at *
        generalize f 50 = f50 at *
        go_wp2_with fail
        go_meet
        exact ⟨c9, H9.out⟩
      · refine ⟨?_, ?_, ?_, ?_, ?_, ?_, ?_, ?_, ?_, ?_, ?_, ?_, ?_, ?_, trivial⟩
        · refine step_val 38 rfl ?_
          intro l f W hE hT hl hd hF
          refine ⟨.pointer (some ⟨w.heap.size, 0, none⟩), W, ?_, E11.refl hE.dice, hT.soft (Dg.refl hE.dice) (by decide), rfl⟩
          have hv := (hvo f 3 (by decide)).trans e3
          clear hvo hvi hF hd hT
          generalize fr a0 [38, 39, 40, 41, 42, 43, 44, 45, 46, 47, 48, 49, 50] f = A at *
          go_simp
        · refine step_val 39 rfl ?_
          intro l f W hE hT hl hd hF
          refine ⟨.slice (some ⟨g1, 0, none⟩) c.wins.length m1, W, ?_, E11.refl hE.dice, hT.soft (Dg.refl hE.dice) (by decide), rfl⟩
          have hv := ((hvi f 38 (by decide)).trans (show f 38 = _ from (hF 0 38 rfl (dep hd 0 ⟨0, .data⟩ rfl rfl))))
          have hc := heap_cell hT.oB 0
          clear hvo hvi hF hd hT
          generalize fr a0 [38, 39, 40, 41, 42, 43, 44, 45, 46, 47, 48, 49, 50] f = A at *
          go_simp
        · refine step_val 40 rfl ?_
          intro l f W hE hT hl hd hF
          have hsW := hT.hs
          refine ⟨.slice (some ⟨W.heap.size, 0, none⟩) 2 2, W.alloc (.cells #[.int .i64 1, .int .i64 0] 3), ?_, ((Dg.refl hE.dice).alloc _).e11 hps hsW, hT.soft ((Dg.refl hE.dice).alloc _) (by decide), (World.ownsRow_lit W #[.int .i64 1, .int .i64 0] 2 hsW (by unfold maxLen; omega) rfl)⟩
          clear hvo hvi hF hd hT
          generalize fr a0 [38, 39, 40, 41, 42, 43, 44, 45, 46, 47, 48, 49, 50] f = A at *
          go_simp
        · refine step_val 41 rfl ?_
          intro l f W hE hT hl hd hF
          have hsW := hT.hs
          refine ⟨.slice (some ⟨W.heap.size, 0, none⟩) 2 2, W.alloc (.cells #[.int .i64 0, .int .i64 0] 3), ?_, ((Dg.refl hE.dice).alloc _).e11 hps hsW, hT.soft ((Dg.refl hE.dice).alloc _) (by decide), (World.ownsRow_lit W #[.int .i64 0, .int .i64 0] 2 hsW (by unfold maxLen; omega) rfl)⟩
          clear hvo hvi hF hd hT
          generalize fr a0 [38, 39, 40, 41, 42, 43, 44, 45, 46, 47, 48, 49, 50] f = A at *
          go_simp
        · refine step_val 42 rfl ?_
          intro l f W hE hT hl hd hF
          have hsW := hT.hs
          refine ⟨.slice (some ⟨W.heap.size, 0, none⟩) 1 1, W.alloc (.cells #[.int .i64 2] 3), ?_, ((Dg.refl hE.dice).alloc _).e11 hps hsW, hT.soft ((Dg.refl hE.dice).alloc _) (by decide), (World.ownsRow_lit W #[.int .i64 2] 1 hsW (by unfold maxLen; omega) rfl)⟩
          clear hvo hvi hF hd hT
          generalize fr a0 [38, 39, 40, 41, 42, 43, 44, 45, 46, 47, 48, 49, 50] f = A at *
          go_simp
        · refine step_val 43 rfl ?_
          intro l f W hE hT hl hd hF
          have hsW := hT.hs
          refine ⟨.slice (some ⟨W.heap.size, 0, none⟩) 1 1, W.alloc (.cells #[.int .i64 (-1)] 3), ?_, ((Dg.refl hE.dice).alloc _).e11 hps hsW, hT.soft ((Dg.refl hE.dice).alloc _) (by decide), (World.ownsRow_lit W #[.int .i64 (-1)] 1 hsW (by unfold maxLen; omega) rfl)⟩
          clear hvo hvi hF hd hT
          generalize fr a0 [38, 39, 40, 41, 42, 43, 44, 45, 46, 47, 48, 49, 50] f = A at *
          go_simp
        · refine step_val 44 rfl ?_
          intro l f W hE hT hl hd hF
          have hsW := hT.hs
          have o40 : OwnInts W w.heap.size (f 40) [1, 0] := (hF 2 40 rfl (dep hd 0 ⟨2, .data⟩ rfl rfl))
          have o41 : OwnInts W w.heap.size (f 41) [0, 0] := (hF 3 41 rfl (dep hd 1 ⟨3, .data⟩ rfl rfl))
          have o42 : OwnInts W w.heap.size (f 42) [2] := (hF 4 42 rfl (dep hd 2 ⟨4, .data⟩ rfl rfl))
          have o43 : OwnInts W w.heap.size (f 43) [-1] := (hF 5 43 rfl (dep hd 3 ⟨5, .data⟩ rfl rfl))
          have he := ((Dg.refl hE.dice).alloc (.cells #[f 40, f 41, f 42, f 43] 22)).e11 hps hsW
          refine ⟨.slice (some ⟨W.heap.size, 0, none⟩) 4 4, W.alloc (.cells #[f 40, f 41, f 42, f 43] 22), ?_, he, hT.soft ((Dg.refl hE.dice).alloc _) (by decide), ⟨W.heap.size, _, rfl, hsW, heap_new W _, rfl, fun i u hu => ?_⟩⟩
          · have v40 := hvi f 40 (by decide)
            have v41 := hvi f 41 (by decide)
            have v42 := hvi f 42 (by decide)
            have v43 := hvi f 43 (by decide)
            obtain ⟨a40, m40, q40⟩ := OwnInts.form o40
            obtain ⟨a41, m41, q41⟩ := OwnInts.form o41
            obtain ⟨a42, m42, q42⟩ := OwnInts.form o42
            obtain ⟨a43, m43, q43⟩ := OwnInts.form o43
            rw [q40] at v40 ⊢
            rw [q41] at v41 ⊢
            rw [q42] at v42 ⊢
            rw [q43] at v43 ⊢
            clear hvo hvi hF hd hT he o40 o41 o42 o43 q40 q41 q42 q43
            generalize fr a0 [38, 39, 40, 41, 42, 43, 44, 45, 46, 47, 48, 49, 50] f = A at *
            go_simp
          · match i, hu with
            | 0, hu => cases hu; exact TeamL.keep ⟨_, by decide, o40⟩ he
            | 1, hu => cases hu; exact TeamL.keep ⟨_, by decide, o41⟩ he
            | 2, hu => cases hu; exact TeamL.keep ⟨_, by decide, o42⟩ he
            | 3, hu => cases hu; exact TeamL.keep ⟨_, by decide, o43⟩ he
            | k + 4, hu => simp at hu
        · refine step_val 45 rfl ?_
          intro l f W hE hT hl hd hF
          refine ⟨.pointer (some ⟨p, 0, none⟩), W, ?_, E11.refl hE.dice, hT.soft (Dg.refl hE.dice) (by decide), rfl⟩
          have hv := (hvo f 0 (by decide)).trans e0
          clear hvo hvi hF hd hT
          generalize fr a0 [38, 39, 40, 41, 42, 43, 44, 45, 46, 47, 48, 49, 50] f = A at *
          go_simp
        · refine step_call 46 rfl (g := 12) ?_
          intro l f W hE hT hl hd hF
          refine ⟨#[.pointer (some ⟨p, 0, none⟩), .int .i64 4], ?_, ?_⟩
          · have hv := ((hvi f 45 (by decide)).trans (show f 45 = _ from (hF 7 45 rfl (dep hd 0 ⟨7, .data⟩ rfl rfl))))
            clear hvo hvi hF hd hT
            generalize fr a0 [38, 39, 40, 41, 42, 43, 44, 45, 46, 47, 48, 49, 50] f = A at *
            go_simp
          · refine (next_any p 4 W hE.dice (by decide) (by decide)).mono ?_
            rintro e W2 ⟨⟨r, hr, rfl⟩, hk⟩
            exact ⟨_, rfl, hk.dg.e11 hps hT.hs, hT.soft hk.dg (by decide), ⟨r, by omega, rfl⟩⟩
        · refine step_val 47 rfl ?_
          intro l f W hE hT hl hd hF
          obtain ⟨b, cur, q1, q2, q3, q4, q5⟩ : Kd.holds w.heap.size (.rows 4) (f 44) W := (hF 6 44 rfl (dep hd 0 ⟨6, .data⟩ rfl rfl))
          obtain ⟨r, hr, q6⟩ : Kd.holds w.heap.size (.num 4) (f 46) W := (hF 8 46 rfl (dep hd 1 ⟨8, .data⟩ rfl rfl))
          have hu := Array.getElem?_eq_getElem (xs := cur) (i := r) (by omega)
          refine ⟨.pointer (some ⟨b, r, none⟩), W, ?_, E11.refl hE.dice, hT.soft (Dg.refl hE.dice) (by decide), ⟨b, cur, r, _, rfl, q2, q3, hu, q5 _ _ hu⟩⟩
          have hv := (hvi f 44 (by decide)).trans q1
          have hv2 := (hvi f 46 (by decide)).trans q6
          have hr5 : (r : Int) < 4 := by omega
          have hr0 : (0 : Int) ≤ (r : Int) := by omega
          clear hvo hvi hF hd hT q1 q2 q3 q4 q5 q6 hu
          generalize fr a0 [38, 39, 40, 41, 42, 43, 44, 45, 46, 47, 48, 49, 50] f = A at *
          go_simp
        · refine step_val 48 rfl ?_
          intro l f W hE hT hl hd hF
          obtain ⟨b, cur, i, u, q1, q2, q3, q4, q5⟩ : Kd.holds w.heap.size .rowp (f 47) W := (hF 9 47 rfl (dep hd 0 ⟨9, .data⟩ rfl rfl))
          refine ⟨u, W, ?_, E11.refl hE.dice, hT.soft (Dg.refl hE.dice) (by decide), q5⟩
          have hv := (hvi f 47 (by decide)).trans q1
          have hc := (heap_cell q3 i).trans q4
          clear hvo hvi hF hd hT q1 q2 q3 q4 q5
          generalize fr a0 [38, 39, 40, 41, 42, 43, 44, 45, 46, 47, 48, 49, 50] f = A at *
          go_simp
        · refine step_val 49 rfl ?_
          intro l f W hE hT hl hd hF
          refine ⟨.pointer (some ⟨g1, 0, none⟩), W, ?_, E11.refl hE.dice, hT.soft (Dg.refl hE.dice) (by decide), rfl⟩
          have hv := ((hvi f 39 (by decide)).trans (show f 39 = _ from (hF 1 39 rfl (dep hd 0 ⟨1, .data⟩ rfl rfl))))
          have hn := HNL.out
          have hne := HNE.out
          clear hvo hvi hF hd hT
          generalize fr a0 [38, 39, 40, 41, 42, 43, 44, 45, 46, 47, 48, 49, 50] f = A at *
          go_simp
        · refine step_val 50 rfl ?_
          intro l f W hE hT hl hd hF
          refine ⟨.pointer (some ⟨g1, 2, none⟩), W, ?_, E11.refl hE.dice, hT.soft (Dg.refl hE.dice) (by decide), rfl⟩
          have hv := ((hvi f 49 (by decide)).trans (show f 49 = _ from (hF 11 49 rfl (dep hd 0 ⟨11, .data⟩ rfl rfl))))
          clear hvo hvi hF hd hT
          generalize fr a0 [38, 39, 40, 41, 42, 43, 44, 45, 46, 47, 48, 49, 50] f = A at *
          go_simp
        · refine step_skip rfl ?_
          intro l f W hE hT hl hd hF
          have hP := hT.pre hl
          obtain ⟨x, rest, e, k1, k2, k3, k4, k5, k6⟩ := hP.winCells (g := g1) rfl HN0.out
          have ht : TeamL W w.heap.size (f 48) := (hF 10 48 rfl (dep hd 1 ⟨10, .data⟩ rfl rfl))
          have hs := hP.teamsSet (g := g1) rfl HN0.out (f 48) ht
          obtain ⟨lt, _, ht2⟩ := ht
          obtain ⟨ua, um, hu⟩ := OwnInts.form ht2
          refine ⟨W.setCell ⟨g1, 2, none⟩ (f 48), ?_, hP.e11set (g := g1) hE.dice rfl 2 (f 48), ⟨(fun h => by cases h), fun _ => hs⟩⟩
          have hv := ((hvi f 50 (by decide)).trans (show f 50 = _ from (hF 12 50 rfl (dep hd 0 ⟨12, .data⟩ rfl rfl))))
          have hv2 := (hvi f 48 (by decide)).trans hu
          rw [hu]
          clear hvo hvi hF hd hT hP hs ht2 e hu
          generalize fr a0 [38, 39, 40, 41, 42, 43, 44, 45, 46, 47, 48, 49, 50] f = A at *
          go_simp
    · have hB := P3.out.oB
      have e0 := heap_cell hB 0
      have e1 := heap_cell hB 1
      have e2 := heap_cell hB 2
      have Y1 := Lib.hid (P3.out.teamCopy 22 HT.out (by have := HTL.out; show c.team.length ≤ 900; omega) HTE.out)
      clear hB
      go_wp2_with (at_builtin; refine wl_app rfl _ _ rfl rfl rfl Y1.out ?_; rintro v8 w8 ⟨q1, q2, ⟨a8, m8, rfl⟩⟩; have O8 := Lib.hid q1; have D8 := Lib.hid q2; clear q1 q2 Y1)
      have hd8 := D8.out.dice
      have D9 := Lib.hid (D8.out.alloc (.cells #[.int .i64 0, .int .i64 7] 3))
      have hp3 : p < w3.heap.size := P3.out.dg.dice.1
      refine (of_any p _ [0, 7] _ D9.out.dice (by decide) (by decide) (lit_dk hd8.1 [0, 7] (by decide))).mono ?_
      rintro e w9 ⟨⟨x, hx, rfl⟩, hk⟩
      have DA := Lib.hid (((Dg.refl hd8).alloc (.cells #[.int .i64 0, .int .i64 7] 3)).trans hk.dg)
      have Y2 := Lib.hid (P3.out.teamAdd 22 (D8.out.trans DA.out) (own_dg hp3 O8.out DA.out) HTS.out (by have := HTL.out; show c.team.length ≤ 900; omega) x)
      clear hd8 hx hk hp3 e0 e1 e2
      go_wp2_with (at_builtin; refine wl_app rfl _ _ rfl rfl rfl Y2.out ?_; rintro va wa9 ⟨q1, ⟨aa, na, ma, rfl⟩, q3⟩; have OA := Lib.hid q1; have c0 := heap_cell q3 0; have c1 := heap_cell q3 1; have c2 := heap_cell q3 2; have f1 := heap_free q3 1; clear q1 q3 Y2)
      go_meet
      exact OA.out
    · go_wp2_with fail
      obtain ⟨⟨xf, xl, xv, xts⟩, rest, e, _⟩ := P3.out.winCells (g := g1) rfl HN0.out
      have e4 : c.wins = ⟨xf, xl, xv, xts⟩ :: rest := e
      have hmem : (⟨xf, xl, xv, xts⟩ : Win) ∈ c.wins := by rw [e4]; exact List.mem_cons_self
      obtain ⟨xa, xm, ex⟩ := (HTS.out _ hmem w3 P3.out.dg.size fun k q1 q2 => P3.out.dg.block k q1 q2).form
      simp only at ex
      subst ex
      have HXE := Lib.hid e4
      have HXM := Lib.hid hmem
      clear e e4 hmem
      refine wp_named fun a0 ha0 => ?_
      have z0 : a0.tmps.size = 78 := by rw [ha0]; rfl
      have hlt := lt_of_all (ds := [64, 65, 66, 67, 68, 69, 70, 71, 72]) (n := a0.tmps.size) (by rw [z0]; rfl)
      have e3 : (a0.tmps[3]?).getD undef = .pointer (some ⟨w.heap.size, 0, none⟩) := by rw [ha0]; rfl
      have HA := Lib.hid ha0
      clear ha0
      have hdw := P3.out.dg.dice
      have hps := P3.out.hp
      have hvo : ∀ f k, k ∉ [64, 65, 66, 67, 68, 69, 70, 71, 72] → ((fr a0 [64, 65, 66, 67, 68, 69, 70, 71, 72] f).tmps[k]?).getD undef = (a0.tmps[k]?).getD undef := fun f k hk => fr_at_out hk hlt
      have hvi : ∀ f k, k ∈ [64, 65, 66, 67, 68, 69, 70, 71, 72] → ((fr a0 [64, 65, 66, 67, 68, 69, 70, 71, 72] f).tmps[k]?).getD undef = f k := fun f k hk => fr_at_in hk hlt
      refine region_list [64, 65, 66, 67, 68, 69, 70, 71, 72] (E5 p w.heap.size (some g1)) (F13 p w.heap.size g1 (⟨xf, xl, .slice xa xts.length xm, xts⟩ : Win) (eq13 w.heap.size g1 c.wins.length m1 (.agg #[.int .i64 xf, .int .i64 xl, .slice xa xts.length xm]))) (T13 p w (⟨c.wins, c.team, c.room, .slice (some ⟨g1, 0, none⟩) c.wins.length m1, .slice ta c.team.length tc, .slice (some ⟨g2, 0, none⟩) 2 m2⟩ : Cal) (⟨xf, xl, .slice xa xts.length xm, xts⟩ : Win)) rfl (by kernel_rfl) (by kernel_rfl) (by kernel_rfl) hlt (fun _ _ _ h1 h2 => h1.trans h2) (fun d v w1 w2 h1 h2 => h1.keep h2) (E5.refl (hdw.drewN 1)) ?_ ?_ ?_
      · exact ⟨(fun h => by cases h), (fun h => by cases h), (fun h => by cases h), (fun h => by cases h), (fun h => by cases h), (fun h => by cases h), (fun _ => P3.out.soft (Dg.refl hdw).drew), (fun h => by cases h), (fun h => by cases h)⟩
      · intro k f W hk hE hT hF
        obtain ⟨c9, h9⟩ := hT.post (hk 9 (by decide))
        have H9 := Lib.hid h9
        clear hk hE hT hF h9 hvo hvi e3 hdw hps P3
        have hA := HA.out
        subst hA
        simp only [fr]
        generalize f 64 = f64 at *
        generalize f 65 = f65 at *
        generalize f 66 = f66 at *
        generalize f 67 = f67 at *
        generalize f 68 = f68 at *
        generalize f 69 = f69 at *
        generalize f 70 = f70 at *
        generalize f 71 = f71 at *
        generalize f 72 = f72 at *
        go_wp2_with fail
        go_meet
        exact ⟨c9, H9.out⟩
      · refine ⟨?_, ?_, ?_, ?_, ?_, ?_, ?_, ?_, ?_, ?_, trivial⟩
        · refine step_val 64 rfl ?_
          intro l f W hE hT hl hd hF
          refine ⟨.pointer (some ⟨w.heap.size, 0, none⟩), W, ?_, E5.refl hE.dice, hT.soft hps (Dg.refl hE.dice) rfl rfl rfl hT.o1 hT.o6 hT.o5 hT.o4 hT.o3 hT.o9, F13.of rfl (by decide)⟩
          have hv := (hvo f 3 (by decide)).trans e3
          clear hvo hvi hF hd hT
          generalize fr a0 [64, 65, 66, 67, 68, 69, 70, 71, 72] f = A at *
          go_simp
        · refine step_val 65 rfl ?_
          intro l f W hE hT hl hd hF
          refine ⟨.slice (some ⟨g1, 0, none⟩) c.wins.length m1, W, ?_, E5.refl hE.dice, hT.soft hps (Dg.refl hE.dice) rfl rfl rfl (fun _ => rfl) hT.o6 hT.o5 hT.o4 hT.o3 hT.o9, F13.of rfl (by decide)⟩
          have hv := ((hvi f 64 (by decide)).trans ((hF 0 64 rfl (dep hd 0 ⟨0, .data⟩ rfl rfl)).1 _ rfl))
          have hc := heap_cell (hT.pre (hT.n1 hl)).oB 0
          clear hvo hvi hF hd hT
          generalize fr a0 [64, 65, 66, 67, 68, 69, 70, 71, 72] f = A at *
          go_simp
        · refine step_val 66 rfl ?_
          intro l f W hE hT hl hd hF
          refine ⟨.pointer (some ⟨w.heap.size, 0, none⟩), W, ?_, E5.refl hE.dice, hT.soft hps (Dg.refl hE.dice) rfl rfl rfl hT.o1 hT.o6 hT.o5 hT.o4 hT.o3 hT.o9, F13.of rfl (by decide)⟩
          have hv := (hvo f 3 (by decide)).trans e3
          clear hvo hvi hF hd hT
          generalize fr a0 [64, 65, 66, 67, 68, 69, 70, 71, 72] f = A at *
          go_simp
        · refine step_val 67 rfl ?_
          intro l f W hE hT hl hd hF
          refine ⟨.slice (some ⟨g1, 0, none⟩) c.wins.length m1, W, ?_, E5.refl hE.dice, hT.soft hps (Dg.refl hE.dice) rfl rfl rfl hT.o1 hT.o6 hT.o5 hT.o4 (fun _ => rfl) hT.o9, F13.of rfl (by decide)⟩
          have hv := ((hvi f 66 (by decide)).trans ((hF 2 66 rfl (dep hd 0 ⟨2, .data⟩ rfl rfl)).1 _ rfl))
          have hc := heap_cell (hT.pre (hT.n3 hl)).oB 0
          clear hvo hvi hF hd hT
          generalize fr a0 [64, 65, 66, 67, 68, 69, 70, 71, 72] f = A at *
          go_simp
        · refine step_val 68 rfl ?_
          intro l f W hE hT hl hd hF
          refine ⟨.pointer (some ⟨g1, 0, none⟩), W, ?_, E5.refl hE.dice, hT.soft hps (Dg.refl hE.dice) rfl rfl rfl hT.o1 hT.o6 hT.o5 (fun _ => rfl) (fun _ => dep hd 0 ⟨3, .data⟩ rfl rfl) hT.o9, F13.of rfl (by decide)⟩
          have hv := ((hvi f 67 (by decide)).trans ((hF 3 67 rfl (dep hd 0 ⟨3, .data⟩ rfl rfl)).1 _ rfl))
          have hn := HNL.out
          have hne := HNE.out
          clear hvo hvi hF hd hT
          generalize fr a0 [64, 65, 66, 67, 68, 69, 70, 71, 72] f = A at *
          go_simp
        · refine step_val 69 rfl ?_
          intro l f W hE hT hl hd hF
          refine ⟨.agg #[.int .i64 xf, .int .i64 xl, .slice xa xts.length xm], W, ?_, E5.refl hE.dice, hT.soft hps (Dg.refl hE.dice) rfl rfl rfl hT.o1 hT.o6 (fun _ => rfl) (fun _ => dep hd 0 ⟨4, .data⟩ rfl rfl) hT.o3 hT.o9, F13.of rfl (by decide)⟩
          have hv := ((hvi f 68 (by decide)).trans ((hF 4 68 rfl (dep hd 0 ⟨4, .data⟩ rfl rfl)).1 _ rfl))
          obtain ⟨x2, rest2, e2, k1, k2, k3, _⟩ := (hT.pre (hT.n5 hl)).winCells (g := g1) rfl HN0.out
          have e4 : (⟨xf, xl, .slice xa xts.length xm, xts⟩ : Win) :: rest = x2 :: rest2 := HXE.out.symm.trans e2
          rw [List.cons.injEq] at e4
          obtain ⟨rfl, rfl⟩ := e4
          clear e2
          clear hvo hvi hF hd hT
          generalize fr a0 [64, 65, 66, 67, 68, 69, 70, 71, 72] f = A at *
          go_simp
        · refine step_val 70 rfl ?_
          intro l f W hE hT hl hd hF
          have hP := hT.pre (hT.n6 hl)
          have hsz := hP.dg.size
          have hBs := (Array.getElem?_eq_some_iff.1 hP.oB).1
          have hgl := (World.ownsRow.lt hP.ow g1 rfl).2
          refine ⟨.slice (some ⟨W.heap.size, 0, none⟩) 1 1, W.alloc (.cells #[.int .i64 xf, .int .i64 xl, .slice xa xts.length xm] 58), ?_, ((Dg.refl hE.dice).alloc _).e5, hT.soft hps ((Dg.refl hE.dice).alloc _) rfl rfl rfl hT.o1 (fun _ => rfl) (fun _ => dep hd 0 ⟨5, .data⟩ rfl rfl) hT.o4 hT.o3 hT.o9, ⟨(fun u e => by cases e), fun _ => ⟨W.heap.size, rfl, by simp, by omega, by omega, (fun e => by cases e; omega), World.cell?_alloc_at _ _ _ _ rfl, World.cell?_alloc_at _ _ _ _ rfl, World.cell?_alloc_at _ _ _ _ rfl⟩⟩⟩
          have hv := ((hvi f 69 (by decide)).trans ((hF 5 69 rfl (dep hd 0 ⟨5, .data⟩ rfl rfl)).1 _ rfl))
          clear hP hsz hBs hgl
          clear hvo hvi hF hd hT
          generalize fr a0 [64, 65, 66, 67, 68, 69, 70, 71, 72] f = A at *
          go_simp
        · refine step_val 71 rfl ?_
          intro l f W hE hT hl hd hF
          have hP := hT.pre hl
          have h65 : f 65 = .slice (some ⟨g1, 0, none⟩) c.wins.length m1 := ((hF 1 65 rfl (dep hd 0 ⟨1, .data⟩ rfl rfl)).1 _ rfl)
          have h70 := (hF 6 70 rfl (dep hd 1 ⟨6, .data⟩ rfl rfl)).2 rfl
          have hw70 := h70.wins (HTS.out _ HXM.out W hP.dg.size fun k q1 q2 => hP.dg.block k q1 q2)
          obtain ⟨v2, W2, hrun, hM, hE2⟩ := hP.winAdd (g1 := g1) 23 rfl hw70
          refine ⟨v2, W2, run_app rfl ((fr_in (by decide) hlt).trans h65) (fr_in (by decide) hlt) hrun, hE2, ⟨(fun _ => dep hd 0 ⟨1, .data⟩ rfl rfl), (fun _ => dep hd 1 ⟨6, .data⟩ rfl rfl), hT.o5, hT.o4, hT.o3, (fun _ => rfl), (fun h => by cases h), (fun _ _ => hM), (fun h => ?_)⟩, ⟨(fun u e => by cases e), fun e => absurd e (by decide)⟩⟩
          have := hT.o9 h
          rw [hl] at this
          cases this
        · refine step_val 72 rfl ?_
          intro l f W hE hT hl hd hF
          refine ⟨.pointer (some ⟨w.heap.size, 0, none⟩), W, ?_, E5.refl hE.dice, hT.soft hps (Dg.refl hE.dice) rfl rfl rfl hT.o1 hT.o6 hT.o5 hT.o4 hT.o3 hT.o9, F13.of rfl (by decide)⟩
          have hv := (hvo f 3 (by decide)).trans e3
          clear hvo hvi hF hd hT
          generalize fr a0 [64, 65, 66, 67, 68, 69, 70, 71, 72] f = A at *
          go_simp
        · refine step_skip rfl ?_
          intro l f W hE hT hl hd hF
          have h7 : l 7 = true := dep hd 1 ⟨7, .data⟩ rfl rfl
          have hM := hT.mid h7 hl
          have hs := hM.store hps HT.out HTS.out HXM.out (by have := HL2.out; have := HL1.out; show c.wins.length ≤ 800 ∧ c.room.length ≤ 800; omega)
          obtain ⟨a71, n71, m71, e71⟩ := own_form hM.ow
          have hc := heap_cell hM.oB 0
          have hz := heap_free hM.oB 0
          refine ⟨W.setCell ⟨w.heap.size, 0, none⟩ (f 71), ?_, ⟨rfl, rfl, rfl, by simp, fun k _ _ q3 _ => Below.heap_setCell _ _ _ _ q3, hs.dg.dice⟩, ⟨hT.o1, hT.o6, hT.o5, hT.o4, hT.o3, (fun _ => h7), (fun h => by rw [show upd l 9 7 = l 7 from rfl, h7] at h; cases h), (fun _ h => by cases h), fun _ => ⟨_, hs⟩⟩⟩
          have hv := ((hvi f 72 (by decide)).trans ((hF 8 72 rfl (dep hd 0 ⟨8, .data⟩ rfl rfl)).1 _ rfl))
          have hv2 := (hvi f 71 (by decide)).trans e71
          rw [e71]
          clear hM hs e71
          clear hvo hvi hF hd hT
          generalize fr a0 [64, 65, 66, 67, 68, 69, 70, 71, 72] f = A at *
          go_simp
    · have hB := P3.out.oB
      have e0 := heap_cell hB 0
      have e1 := heap_cell hB 1
      have e2 := heap_cell hB 2
      have f2 := heap_free hB 2
      have hlt3 : w.heap.size < w3.heap.size := (Array.getElem?_eq_some_iff.1 hB).1
      have y1 := P3.out.roomNew HTS.out HT.out 9 (by decide)
      rw [World.setCell_alloc_past (hn := hlt3)] at y1
      have Y1 := Lib.hid y1
      clear y1
      have hmk : ∀ W : World, (Instr.makeSlice 22 (.int .i64 9) (.int .i64 9)).run Try.prog W = .ok (.slice (some ⟨W.heap.size, 0, none⟩) 9 9) (W.alloc (.cells (nums 9 fun _ => 0).toArray 3)) := fun W => run_make_ints W 9 (by decide)
      generalize (nums 9 fun _ => (0 : Int)).toArray = Z at *
      clear hB
      go_wp2_with fail
      go_meet
      exact ⟨_, Y1.out⟩
    · go_wp2_with fail
      go_meet
      exact ⟨_, P3.out⟩
    · go_wp2_with fail
      go_meet
      exact ⟨_, P3.out⟩
end Go.Proofs.Ytpbahffkhpfakaa


import Derived.Test.YtpbahffkhpfakaaWFuPZ
import Derived.Deep.RegionHeld3
namespace Go.Proofs.Ytpbahffkhpfakaa
open Go.RowKit
set_option linter.unusedSimpArgs false
set_option linter.unusedVariables false

/-! ## A window that fills up: the calendar, and what the rounds keep -/

theorem fu_at (n : Nat) (w : World) : CalIn w ((((((w.alloc (.cells #[.int .i64 0, .int .i64 1] 3)).alloc (.cells #[.int .i64 0] 3)).alloc (.cells #[.int .i64 10, .int .i64 30, .slice (some ⟨w.heap.size, 0, none⟩) 2 2, .int .i64 40, .int .i64 50, .slice (some ⟨w.heap.size + 1, 0, none⟩) 1 1] 58)).alloc (.cells #[.int .i64 0, .int .i64 1] 3)).alloc (.cells #[.int .i64 n, .int .i64 5] 3)).alloc (.cells #[.slice (some ⟨w.heap.size + 1 + 1, 0, none⟩) 2 2, .slice (some ⟨w.heap.size + 1 + 1 + 1, 0, none⟩) 2 2, .slice (some ⟨w.heap.size + 1 + 1 + 1 + 1, 0, none⟩) 2 2] 25)) (w.heap.size + 1 + 1 + 1 + 1 + 1) (fuC n w.heap.size) := by
  have i1 := ints_new w [0, 1] 3 (by decide)
  have b0 := Below.alloc1 w (.cells #[.int .i64 0, .int .i64 1] 3)
  have s1 : (w.alloc (.cells #[.int .i64 0, .int .i64 1] 3)).heap.size = w.heap.size + 1 := by simp
  replace i1 : IntsAt (w.alloc (.cells #[.int .i64 0, .int .i64 1] 3)) (.slice (some ⟨w.heap.size, 0, none⟩) 2 2) [0, 1] := i1
  generalize w.alloc (.cells #[.int .i64 0, .int .i64 1] 3) = W1 at *
  have i2 := ints_new W1 [0] 3 (by decide)
  have b1 := Below.alloc1 W1 (.cells #[.int .i64 0] 3)
  have s2 : (W1.alloc (.cells #[.int .i64 0] 3)).heap.size = w.heap.size + 1 + 1 := by simp [s1]
  rw [s1] at i2
  replace i2 : IntsAt (W1.alloc (.cells #[.int .i64 0] 3)) (.slice (some ⟨w.heap.size + 1, 0, none⟩) 1 1) [0] := i2
  generalize W1.alloc (.cells #[.int .i64 0] 3) = W2 at *
  have i3 := wins_new W2 (fuC n w.heap.size).wins 58 (by simp [fuC]) (fun x hx => by
    simp only [fuC, List.mem_cons, List.not_mem_nil, or_false] at hx
    rcases hx with rfl | rfl
    · exact i1.below b1
    · exact i2)
  have b2 := Below.alloc1 W2 (.cells #[.int .i64 10, .int .i64 30, .slice (some ⟨w.heap.size, 0, none⟩) 2 2, .int .i64 40, .int .i64 50, .slice (some ⟨w.heap.size + 1, 0, none⟩) 1 1] 58)
  have s3 : (W2.alloc (.cells #[.int .i64 10, .int .i64 30, .slice (some ⟨w.heap.size, 0, none⟩) 2 2, .int .i64 40, .int .i64 50, .slice (some ⟨w.heap.size + 1, 0, none⟩) 1 1] 58)).heap.size = w.heap.size + 1 + 1 + 1 := by simp [s2]
  rw [s2] at i3
  replace i3 : WinsAt (W2.alloc (.cells #[.int .i64 10, .int .i64 30, .slice (some ⟨w.heap.size, 0, none⟩) 2 2, .int .i64 40, .int .i64 50, .slice (some ⟨w.heap.size + 1, 0, none⟩) 1 1] 58)) (.slice (some ⟨w.heap.size + 1 + 1, 0, none⟩) 2 2) (fuC n w.heap.size).wins := i3
  generalize W2.alloc (.cells #[.int .i64 10, .int .i64 30, .slice (some ⟨w.heap.size, 0, none⟩) 2 2, .int .i64 40, .int .i64 50, .slice (some ⟨w.heap.size + 1, 0, none⟩) 1 1] 58) = W3 at *
  have i4 := ints_new W3 [0, 1] 3 (by decide)
  have b3 := Below.alloc1 W3 (.cells #[.int .i64 0, .int .i64 1] 3)
  have s4 : (W3.alloc (.cells #[.int .i64 0, .int .i64 1] 3)).heap.size = w.heap.size + 1 + 1 + 1 + 1 := by simp [s3]
  rw [s3] at i4
  replace i4 : IntsAt (W3.alloc (.cells #[.int .i64 0, .int .i64 1] 3)) (.slice (some ⟨w.heap.size + 1 + 1 + 1, 0, none⟩) 2 2) [0, 1] := i4
  generalize W3.alloc (.cells #[.int .i64 0, .int .i64 1] 3) = W4 at *
  have i5 := ints_new W4 [(n : Int), 5] 3 (by simp)
  have b4 := Below.alloc1 W4 (.cells #[.int .i64 n, .int .i64 5] 3)
  have s5 : (W4.alloc (.cells #[.int .i64 n, .int .i64 5] 3)).heap.size = w.heap.size + 1 + 1 + 1 + 1 + 1 := by simp [s4]
  rw [s4] at i5
  replace i5 : IntsAt (W4.alloc (.cells #[.int .i64 n, .int .i64 5] 3)) (.slice (some ⟨w.heap.size + 1 + 1 + 1 + 1, 0, none⟩) 2 2) [(n : Int), 5] := i5
  generalize W4.alloc (.cells #[.int .i64 n, .int .i64 5] 3) = W5 at *
  have h := cal_in w W5 (fuC n w.heap.size) ((((b0.trans (b1.mono (by omega))).trans (b2.mono (by omega))).trans (b3.mono (by omega))).trans (b4.mono (by omega))) ⟨(i3.below b3).below b4, i4.below b4, i5⟩ 25
  rw [s5] at h
  exact h

theorem Reg4.drop {W0 w : World} {a b c d : Value} {la lb lc ld : List Int} (h : Reg4 W0 w a la b lb c lc d ld) : Reg4 W0 w a la b lb (.slice none 0 0) [] (.slice none 0 0) [] :=
  ⟨h.bel, h.oa, h.ob, World.ownsRow_nil _ _ _ _, World.ownsRow_nil _ _ _ _, h.ab, (Apart.nil _).symm, (Apart.nil _).symm, (Apart.nil _).symm, (Apart.nil _).symm, Apart.nil _⟩
/-- one number more, of a literal, in the first place -/
theorem Reg4.more {W0 w : World} {a b c d : Value} {la lb lc ld : List Int} (h : Reg4 W0 w a la b lb c lc d ld) (ty : TypeId) (y : Int) (n : Nat) (hn : w.heap.size = n) (hl : la.length ≤ 900) :
    ∃ a' w', (Builtin.append_ #[22, 22] ty #[a, .slice (some ⟨n, 0, none⟩) 1 1]).run Try.prog (w.alloc (.cells #[.int .i64 y] 3)) = .ok a' w' ∧ Reg4 W0 w' a' (la ++ [y]) b lb (.slice none 0 0) [] (.slice none 0 0) [] := by
  have h1 := (h.swap13.lit y n hn).swap13
  obtain ⟨a', w', h2, h3⟩ := h1.app ty _ [y] (h1.oc.at (by simp)) h1.swap13.nilA (by simp; omega)
  exact ⟨a', w', h2, h3.drop⟩

section
variable {W0 w w' : World} {a b c d v : Value} {la lb lc ld l : List Int}
theorem Reg4.later (h : Reg4 W0 w a la b lb c lc d ld) (hb : Below w.heap.size w w') : Reg4 W0 w' a la b lb c lc d ld := by
  have hg : w.grownBy w' none := ⟨hb.os, hb.tape, hb.output, hb.size, fun k hk _ => hb.block k hk⟩
  have key : ∀ (u : Value) (lu : List Int), OwnInts w W0.heap.size u lu → OwnInts w' W0.heap.size u lu := fun u lu hu => World.ownsRow.kept hu hg (Classical.em _)
  exact ⟨h.bel.trans (hb.mono h.bel.size), key _ _ h.oa, key _ _ h.ob, key _ _ h.oc, key _ _ h.od, h.ab, h.ac, h.ad, h.bc, h.bd, h.cd⟩
theorem Reg4.pA (h : Reg4 W0 w a la b lb c lc d ld) : Reg4 W0 (w.alloc (.cells #[.int .i64 0] 3)) a la (.slice (some ⟨w.heap.size, 0, none⟩) 1 1) [0] c lc d ld := (h.swap12.lit 0 w.heap.size rfl).swap12
theorem Reg4.pB (h : Reg4 W0 w a la b lb c lc d ld) : Reg4 W0 (w.alloc (.cells #[.int .i64 12] 3)) a la b lb c lc (.slice (some ⟨w.heap.size, 0, none⟩) 1 1) [12] := (h.swap14.lit 12 w.heap.size rfl).swap14
theorem Reg4.pAB (h : Reg4 W0 w a la b lb c lc d ld) : Reg4 W0 ((w.alloc (.cells #[.int .i64 0] 3)).alloc (.cells #[.int .i64 12] 3)) a la (.slice (some ⟨w.heap.size, 0, none⟩) 1 1) [0] c lc (.slice (some ⟨w.heap.size + 1, 0, none⟩) 1 1) [12] := (h.pA.swap14.lit 12 (w.heap.size + 1) (by simp)).swap14
theorem Reg4.pBA (h : Reg4 W0 w a la b lb c lc d ld) : Reg4 W0 ((w.alloc (.cells #[.int .i64 12] 3)).alloc (.cells #[.int .i64 0] 3)) a la (.slice (some ⟨w.heap.size + 1, 0, none⟩) 1 1) [0] c lc (.slice (some ⟨w.heap.size, 0, none⟩) 1 1) [12] := (h.pB.swap12.lit 0 (w.heap.size + 1) (by simp)).swap12
theorem wsx_app {ops : Array Oper} {o : Oper} {a : Act} {w W : World} {K : Act → World → Prop} {Q : Exit → Act → World → Prop} {E : Prop} {vs vx : Value} (hg : o.guard = none) (s x : Operand)
    (ho : o.op = .call { callee := .builtin .append, args := #[s, x], argTypes := #[22, 22] }) (hy : o.type = 22) {C : Value → World → Prop}
    (hr : ∃ v' w', (Builtin.append_ #[22, 22] 22 #[vs, vx]).run Try.prog W = .ok v' w' ∧ C v' w') (hw : w = W) (hs : a.eval s = vs) (hx : a.eval x = vx) (k : ∀ v' w', C v' w' → K (a.put o.dst v') w') :
    if Region.wanted o (yielded ops a.tmps) = true then Oper.wp Try.prog o a w K Q else E := by
  subst hw
  exact ws_app hg s x ho hs hx (by rw [hy]; exact hr) k
theorem Reg4.a2 (h : Reg4 W0 w (.slice none 0 0) [] b lb c lc d ld) (hv : IntsAt W0 v l) (hn : NilOk v) (hl : l.length ≤ 900) :
    ∃ v' w', (Builtin.append_ #[22, 22] 22 #[.slice none 0 0, v]).run Try.prog w = .ok v' w' ∧ Reg4 W0 w' v' l b lb c lc d ld := h.app 22 v l (h.old hv) hn (by simp; omega)
theorem Reg4.a4 (h : Reg4 W0 w a la b lb c lc d ld) (hl : la.length + lb.length ≤ 900) :
    ∃ v' w', (Builtin.append_ #[22, 22] 22 #[a, b]).run Try.prog w = .ok v' w' ∧ Reg4 W0 w' v' (la ++ lb) b lb c lc d ld := h.app 22 b lb (h.ob.at (by omega)) h.nilB (by omega)
theorem Reg4.a6 (h : Reg4 W0 w a la b lb (.slice none 0 0) [] d ld) (hv : IntsAt W0 v l) (hn : NilOk v) (hl : l.length ≤ 900) :
    ∃ v' w', (Builtin.append_ #[22, 22] 22 #[.slice none 0 0, v]).run Try.prog w = .ok v' w' ∧ Reg4 W0 w' a la b lb v' l d ld := by
  obtain ⟨v', w', h1, h2⟩ := h.swap13.a2 hv hn hl
  exact ⟨v', w', h1, h2.swap13⟩
theorem Reg4.a8 (h : Reg4 W0 w a la b lb c lc d ld) (hl : lc.length + ld.length ≤ 900) :
    ∃ v' w', (Builtin.append_ #[22, 22] 22 #[c, d]).run Try.prog w = .ok v' w' ∧ Reg4 W0 w' a la b lb v' (lc ++ ld) d ld := by
  obtain ⟨v', w', h1, h2⟩ := h.swap13.app 22 d ld (h.od.at (by omega)) h.swap14.nilA (by omega)
  exact ⟨v', w', h1, h2.swap13⟩
end

set_option maxRecDepth 100000 in
set_option maxHeartbeats 8000000 in
theorem fullLaw (r o d : Nat) (w : World) (h0 : r < 256) (h1 : o < 256) (h2 : d < 256) : Calls Try.prog 7 #[.int .u8 (r : Int), .int .u8 (o : Int), .int .u8 (d : Int)] w fun e w' => e = .returned (.bool true) ∧ Below w.heap.size w w' := by
  have hN := fu_at (r % 24) w
  rw [show ((r % 24 : Nat) : Int) = (r : Int) % 24 by omega] at hN
  have HC := Lib.hid hN
  obtain ⟨m, hm⟩ : ∃ m, m = o % 5 := ⟨_, rfl⟩
  obtain ⟨n, hn⟩ : ∃ n, n = r % 24 := ⟨_, rfl⟩
  have em : (o : Int) % 5 = (m : Int) := by omega
  have en : (r : Int) % 24 = (n : Int) := by omega
  have hm5 : m < 5 := by omega
  have hn24 : n < 24 := by omega
  clear hN
  rw [en, ← hn] at HC
  have EM := Lib.hid em
  have EN := Lib.hid en
  clear em en hn hm
  go_enter Try.func7, Try.ntmps7
  go_wp2_with fail
  rw [EM.out, EN.out]
  clear EM EN
  generalize ((((((w.alloc (.cells #[.int .i64 0, .int .i64 1] 3)).alloc (.cells #[.int .i64 0] 3)).alloc (.cells #[.int .i64 10, .int .i64 30, .slice (some ⟨w.heap.size, 0, none⟩) 2 2, .int .i64 40, .int .i64 50, .slice (some ⟨w.heap.size + 1, 0, none⟩) 1 1] 58)).alloc (.cells #[.int .i64 0, .int .i64 1] 3)).alloc (.cells #[.int .i64 n, .int .i64 5] 3)).alloc (.cells #[.slice (some ⟨w.heap.size + 1 + 1, 0, none⟩) 2 2, .slice (some ⟨w.heap.size + 1 + 1 + 1, 0, none⟩) 2 2, .slice (some ⟨w.heap.size + 1 + 1 + 1 + 1, 0, none⟩) 2 2] 25)) = W0 at *
  go_loopg [10, 11, 12] n (fun gg s10 s11 s12 wr => ∃ kk : Nat, kk ≤ n ∧ n - kk ≤ gg ∧ s12 = .int .i64 kk ∧ Aside (Reg4 W0 wr s10 (tsF kk 0) s11 (dsK d kk 0) (.slice none 0 0) [] (.slice none 0 0) []))
  case atStart => exact ⟨0, Nat.zero_le _, by omega, rfl, Reg4.nil W0⟩
  case round =>
    obtain ⟨kk, hkk, hg, rfl, R⟩ := hrel
    by_cases hlt : kk < n
    · have hltz : (kk : Int) < (n : Int) := by omega
      have HL1 := Lib.hid (show (tsF kk 0).length ≤ 900 by rw [tsF_len]; omega)
      have HL2 := Lib.hid (show (dsK d kk 0).length ≤ 900 by rw [dsK_len]; omega)
      have HS := Lib.hid (show (10 + ((kk : Int) + (d : Int)) % 20) = 10 + (((kk + d) % 20 : Nat) : Int) by omega)
      have X1 := Lib.hid (R.out.more 22 0 _ rfl HL1.out)
      go_wp2_with (first
        | (at_builtin; refine wl_app rfl _ _ rfl rfl rfl X1.out ?_; intro v1 w1 R2; have X3 := Lib.hid (R2.swap12.more 22 (10 + ((kk : Int) + (d : Int)) % 20) _ rfl HL2.out); clear R2 X1)
        | (at_builtin; refine wl_app rfl _ _ rfl rfl rfl X3.out ?_; intro v2 w2 R4; have R5 := Lib.hid R4.swap12; clear R4 X3))
      go_roundg (n - (kk + 1))
      case measure => omega
      case rel =>
        refine ⟨kk + 1, by omega, by omega, by go_num, (show Reg4 _ _ _ _ _ _ _ _ _ _ from ?_)⟩
        have := R5.out
        rw [HS.out, ← tsF_succ0, ← dsK_succ0] at this
        exact this
    · have hkn : kk = n := by omega
      have hltz : ¬ (kk : Int) < (n : Int) := by omega
      subst hkn
      have R1 := Lib.hid (show Reg4 W0 wr.drew u10 (tsF kk 0) u11 (dsK d kk 0) (.slice none 0 0) [] (.slice none 0 0) [] from R.out.drew)
      have HI1 := Lib.hid (show IntsAt wr.drew u10 (tsF kk 0) from R1.out.oa.at (by rw [tsF_len]; omega))
      have HI2 := Lib.hid (show IntsAt wr.drew u11 (dsK d kk 0) from R1.out.ob.at (by rw [dsK_len]; omega))
      have HN1 := Lib.hid R.out.nilA
      have HN2 := Lib.hid R.out.nilB
      have HL1 := Lib.hid (show (tsF kk 0).length ≤ 900 by rw [tsF_len]; omega)
      have HL2 := Lib.hid (show (dsK d kk 0).length ≤ 900 by rw [dsK_len]; omega)
      have HL3 := Lib.hid (show (tsF kk 0).length + [(0 : Int)].length ≤ 900 by rw [tsF_len]; simp; omega)
      have HL4 := Lib.hid (show (dsK d kk 0).length + [(12 : Int)].length ≤ 900 by rw [dsK_len]; simp; omega)
      have HC1 := Lib.hid (HC.out.later R1.out.bel)
      have HFIT := Lib.hid (fun (W : World) (v1 : Value) (b : Value) (lb : List Int) (v2 : Value) (c : Value) (lc : List Int) (u : Unit) (h : Reg4 wr.drew W v1 (tsF kk 0 ++ [0]) b lb v2 (dsK d kk 0 ++ [12]) c lc) => show Calls Try.prog 28 #[.agg #[.slice (some ⟨w.heap.size + 1 + 1, 0, none⟩) 2 2, .slice (some ⟨w.heap.size + 1 + 1 + 1, 0, none⟩) 2 2, .slice (some ⟨w.heap.size + 1 + 1 + 1 + 1, 0, none⟩) 2 2], v1, v2] W fun e w' => e = .returned (.int .i64 48) ∧ Below W.heap.size W w' from by
        have hf := fits_any (fuC kk w.heap.size) v1 v2 (tsF kk 0 ++ [0]) (dsK d kk 0 ++ [12]) W (HC1.out.cal.below h.bel) (h.oa.at (by rw [List.length_append, tsF_len]; simp; omega)) (h.oc.at (by rw [List.length_append, dsK_len]; simp; omega)) h.nilA
        rw [fu_over kk _ d (by omega)] at hf
        exact hf)
      go_upto_region 8 with fail
      go_cut [13] from 54 to 63 (fun s13 wx => s13 = .int .i64 48 ∧ Aside (Reg4 W0 wx u10 (tsF kk 0) u11 (dsK d kk 0) (.slice none 0 0) [] (.slice none 0 0) []))
      case first =>
        have RR := Lib.hid (Reg4.nil wr.drew)
        have HSK := Lib.hid (fun (W : World) (hW : Below wr.drew.heap.size wr.drew W) => show W.cell? ⟨w.heap.size + 1 + 1 + 1 + 1 + 1, 0, none⟩ = some (.slice (some ⟨w.heap.size + 1 + 1, 0, none⟩) 2 2) ∧ W.cell? ⟨w.heap.size + 1 + 1 + 1 + 1 + 1, 1, none⟩ = some (.slice (some ⟨w.heap.size + 1 + 1 + 1, 0, none⟩) 2 2) ∧ W.cell? ⟨w.heap.size + 1 + 1 + 1 + 1 + 1, 2, none⟩ = some (.slice (some ⟨w.heap.size + 1 + 1 + 1 + 1, 0, none⟩) 2 2) from by
          have h := HC1.out.later hW
          exact ⟨h.d0, h.d1, h.d2⟩)
        go_region_held3 (fun W => W.cell? ⟨w.heap.size + 1 + 1 + 1 + 1 + 1, 0, none⟩ = some (.slice (some ⟨w.heap.size + 1 + 1, 0, none⟩) 2 2) ∧ W.cell? ⟨w.heap.size + 1 + 1 + 1 + 1 + 1, 1, none⟩ = some (.slice (some ⟨w.heap.size + 1 + 1 + 1, 0, none⟩) 2 2) ∧ W.cell? ⟨w.heap.size + 1 + 1 + 1 + 1 + 1, 2, none⟩ = some (.slice (some ⟨w.heap.size + 1 + 1 + 1 + 1, 0, none⟩) 2 2)) (first | exact HSK.out _ RR.out.bel | exact HSK.out _ RR.out.pA.bel | exact HSK.out _ RR.out.pB.bel | exact HSK.out _ RR.out.pAB.bel | exact HSK.out _ RR.out.pBA.bel | exact HSK.out _ FIN.out) (first
          | (refine wsx_app rfl (.const (.slice none 0 0)) (.tmp 55) rfl rfl (RR.out.a2 HI1.out HN1.out HL1.out) rfl rfl rfl ?_; intro v3 w3 R3; clear RR; have RR := Lib.hid R3; clear R3)
          | (refine wsx_app rfl (.const (.slice none 0 0)) (.tmp 55) rfl rfl (RR.out.pA.a2 HI1.out HN1.out HL1.out) rfl rfl rfl ?_; intro v3 w3 R3; clear RR; have RR := Lib.hid R3; clear R3)
          | (refine wsx_app rfl (.const (.slice none 0 0)) (.tmp 55) rfl rfl (RR.out.pB.a2 HI1.out HN1.out HL1.out) rfl rfl rfl ?_; intro v3 w3 R3; clear RR; have RR := Lib.hid R3; clear R3)
          | (refine wsx_app rfl (.const (.slice none 0 0)) (.tmp 55) rfl rfl (RR.out.pAB.a2 HI1.out HN1.out HL1.out) rfl rfl rfl ?_; intro v3 w3 R3; clear RR; have RR := Lib.hid R3; clear R3)
          | (refine wsx_app rfl (.const (.slice none 0 0)) (.tmp 55) rfl rfl (RR.out.pBA.a2 HI1.out HN1.out HL1.out) rfl rfl rfl ?_; intro v3 w3 R3; clear RR; have RR := Lib.hid R3; clear R3)
          | (refine wsx_app rfl (.tmp 56) (.tmp 57) rfl rfl (RR.out.a4 HL3.out) rfl rfl rfl ?_; intro v3 w3 R3; clear RR; have RR := Lib.hid R3; clear R3)
          | (refine wsx_app rfl (.tmp 56) (.tmp 57) rfl rfl (RR.out.pA.a4 HL3.out) rfl rfl rfl ?_; intro v3 w3 R3; clear RR; have RR := Lib.hid R3; clear R3)
          | (refine wsx_app rfl (.tmp 56) (.tmp 57) rfl rfl (RR.out.pB.a4 HL3.out) rfl rfl rfl ?_; intro v3 w3 R3; clear RR; have RR := Lib.hid R3; clear R3)
          | (refine wsx_app rfl (.tmp 56) (.tmp 57) rfl rfl (RR.out.pAB.a4 HL3.out) rfl rfl rfl ?_; intro v3 w3 R3; clear RR; have RR := Lib.hid R3; clear R3)
          | (refine wsx_app rfl (.tmp 56) (.tmp 57) rfl rfl (RR.out.pBA.a4 HL3.out) rfl rfl rfl ?_; intro v3 w3 R3; clear RR; have RR := Lib.hid R3; clear R3)
          | (refine wsx_app rfl (.const (.slice none 0 0)) (.tmp 59) rfl rfl (RR.out.a6 HI2.out HN2.out HL2.out) rfl rfl rfl ?_; intro v3 w3 R3; clear RR; have RR := Lib.hid R3; clear R3)
          | (refine wsx_app rfl (.const (.slice none 0 0)) (.tmp 59) rfl rfl (RR.out.pA.a6 HI2.out HN2.out HL2.out) rfl rfl rfl ?_; intro v3 w3 R3; clear RR; have RR := Lib.hid R3; clear R3)
          | (refine wsx_app rfl (.const (.slice none 0 0)) (.tmp 59) rfl rfl (RR.out.pB.a6 HI2.out HN2.out HL2.out) rfl rfl rfl ?_; intro v3 w3 R3; clear RR; have RR := Lib.hid R3; clear R3)
          | (refine wsx_app rfl (.const (.slice none 0 0)) (.tmp 59) rfl rfl (RR.out.pAB.a6 HI2.out HN2.out HL2.out) rfl rfl rfl ?_; intro v3 w3 R3; clear RR; have RR := Lib.hid R3; clear R3)
          | (refine wsx_app rfl (.const (.slice none 0 0)) (.tmp 59) rfl rfl (RR.out.pBA.a6 HI2.out HN2.out HL2.out) rfl rfl rfl ?_; intro v3 w3 R3; clear RR; have RR := Lib.hid R3; clear R3)
          | (refine wsx_app rfl (.tmp 60) (.tmp 61) rfl rfl (RR.out.a8 HL4.out) rfl rfl rfl ?_; intro v3 w3 R3; clear RR; have RR := Lib.hid R3; clear R3)
          | (refine wsx_app rfl (.tmp 60) (.tmp 61) rfl rfl (RR.out.pA.a8 HL4.out) rfl rfl rfl ?_; intro v3 w3 R3; clear RR; have RR := Lib.hid R3; clear R3)
          | (refine wsx_app rfl (.tmp 60) (.tmp 61) rfl rfl (RR.out.pB.a8 HL4.out) rfl rfl rfl ?_; intro v3 w3 R3; clear RR; have RR := Lib.hid R3; clear R3)
          | (refine wsx_app rfl (.tmp 60) (.tmp 61) rfl rfl (RR.out.pAB.a8 HL4.out) rfl rfl rfl ?_; intro v3 w3 R3; clear RR; have RR := Lib.hid R3; clear R3)
          | (refine wsx_app rfl (.tmp 60) (.tmp 61) rfl rfl (RR.out.pBA.a8 HL4.out) rfl rfl rfl ?_; intro v3 w3 R3; clear RR; have RR := Lib.hid R3; clear R3)
          | (go_simp; go_at_call 28; refine (HFIT.out _ _ _ _ _ _ _ () RR.out).mono ?_; rintro e w4 ⟨rfl, hb⟩; have FIN := Lib.hid (RR.out.bel.trans (hb.mono RR.out.bel.size)); clear RR hb))
        all_goals (go_wp2_with fail; go_meet; exact ⟨rfl, R1.out.later FIN.out⟩)
      case rest =>
        obtain ⟨rfl, R2⟩ := hcut
        obtain ⟨ax, mx, rfl⟩ : ∃ a m, u10 = .slice a kk m := by
          obtain ⟨a, m, e⟩ := R2.out.oa.form
          rw [tsF_len] at e
          exact ⟨a, m, e⟩
        clear R R1 HI1 HI2 HN1 HN2 HC1 HFIT HL1 HL2 HL3 HL4
        by_cases hk24 : kk + m ≤ 24
        · have hkz : (kk : Int) + (m : Int) ≤ 24 := by omega
          go_wp2_with fail
          go_loopg [10, 11, 14] m (fun gg s10 s11 s14 wr => ∃ k2 : Nat, k2 ≤ m ∧ m - k2 ≤ gg ∧ s14 = .int .i64 k2 ∧ Aside (Reg4 W0 wr s10 (tsF kk k2) s11 (dsK d kk k2) (.slice none 0 0) [] (.slice none 0 0) []))
          case atStart => exact ⟨0, Nat.zero_le _, by omega, rfl, R2.out⟩
          case round =>
            obtain ⟨k2, hk2, hg2, rfl, R4⟩ := hrel
            by_cases hlt2 : k2 < m
            · have hltz2 : (k2 : Int) < (m : Int) := by omega
              have HL1 := Lib.hid (show (tsF kk k2).length ≤ 900 by rw [tsF_len]; omega)
              have HL2 := Lib.hid (show (dsK d kk k2).length ≤ 900 by rw [dsK_len]; omega)
              have X1 := Lib.hid (R4.out.more 22 1 _ rfl HL1.out)
              go_wp2_with (first
                | (at_builtin; refine wl_app rfl _ _ rfl rfl rfl X1.out ?_; intro v1 w1 R5; have X3 := Lib.hid (R5.swap12.more 22 29 _ rfl HL2.out); clear R5 X1)
                | (at_builtin; refine wl_app rfl _ _ rfl rfl rfl X3.out ?_; intro v2 w2 R6; have R7 := Lib.hid R6.swap12; clear R6 X3))
              go_roundg (m - (k2 + 1))
              case measure => omega
              case rel =>
                refine ⟨k2 + 1, by omega, by omega, by go_num, (show Reg4 _ _ _ _ _ _ _ _ _ _ from ?_)⟩
                have := R7.out
                rw [← tsF_succ, ← dsK_succ] at this
                exact this
            · have hltz2 : ¬ (k2 : Int) < (m : Int) := by omega
              have hkm : k2 = m := by omega
              subst hkm
              clear R2
              have HC2 := Lib.hid (HC.out.later R4.out.bel)
              have hI1 := R4.out.oa.at (by rw [tsF_len]; omega)
              have hI2 := R4.out.ob.at (by rw [dsK_len]; omega)
              have hear := earliest_any (fuC kk w.heap.size) u10 u11 (tsF kk k2) (dsK d kk k2) 0 11 wr HC2.out.cal hI1 hI2 R4.out.nilA
              rw [fu_nextE kk _ d k2 (by omega) (by omega), fu_nextD kk _ d k2 (by omega) (by omega)] at hear
              have HEAR := Lib.hid hear
              have HFIT := Lib.hid (fun (W : World) (hW : Below wr.heap.size wr W) => show Calls Try.prog 28 #[.agg #[.slice (some ⟨w.heap.size + 1 + 1, 0, none⟩) 2 2, .slice (some ⟨w.heap.size + 1 + 1 + 1, 0, none⟩) 2 2, .slice (some ⟨w.heap.size + 1 + 1 + 1 + 1, 0, none⟩) 2 2], u10, u11] W fun e w' => e = .returned (.int .i64 0) ∧ Below W.heap.size W w' from by
                have hf := fits_any (fuC kk w.heap.size) u10 u11 (tsF kk k2) (dsK d kk k2) W (HC2.out.cal.below hW) (hI1.below hW) (hI2.below hW) R4.out.nilA
                rw [fu_under kk _ d k2 (by omega) (by omega)] at hf
                exact hf)
              clear hear hI1 hI2
              have d0 := HC2.out.d0
              have d1 := HC2.out.d1
              have d2 := HC2.out.d2
              simp only [fuC] at d0 d1 d2
              by_cases hpos : 0 < kk
              · rw [if_pos hpos] at HEAR
                have hposz : (0 : Int) < (kk : Int) := by omega
                go_wp2_with fail
                refine HEAR.out.mono ?_
                rintro e w5 ⟨rfl, hb⟩
                have HC3 := Lib.hid (HC2.out.later hb)
                have hfit := HFIT.out w5 hb
                have d0 := HC3.out.d0
                have d1 := HC3.out.d1
                have d2 := HC3.out.d2
                simp only [fuC] at d0 d1 d2
                have HFI := Lib.hid hfit
                clear hb hfit HEAR HFIT HC2
                go_wp2_with fail
                refine HFI.out.mono ?_
                rintro e w6 ⟨rfl, hb⟩
                have HC4 := Lib.hid (HC3.out.later hb)
                clear hb HFI HC3
                go_wp2_with fail
                refine (awake_any _).mono ?_
                rintro e w7 ⟨rfl, hb⟩
                have HC5 := Lib.hid (HC4.out.later hb)
                clear hb HC4
                go_wp2_with fail
                go_ret
                exact ⟨rfl, HC5.out.below⟩
              · rw [if_neg hpos] at HEAR
                have hposz : ¬ (0 : Int) < (kk : Int) := by omega
                go_wp2_with fail
                refine HEAR.out.mono ?_
                rintro e w5 ⟨rfl, hb⟩
                have HC3 := Lib.hid (HC2.out.later hb)
                have hfit := HFIT.out w5 hb
                have d0 := HC3.out.d0
                have d1 := HC3.out.d1
                have d2 := HC3.out.d2
                simp only [fuC] at d0 d1 d2
                have HFI := Lib.hid hfit
                clear hb hfit HEAR HFIT HC2
                go_wp2_with fail
                refine HFI.out.mono ?_
                rintro e w6 ⟨rfl, hb⟩
                have HC4 := Lib.hid (HC3.out.later hb)
                clear hb HFI HC3
                go_wp2_with fail
                refine (awake_any _).mono ?_
                rintro e w7 ⟨rfl, hb⟩
                have HC5 := Lib.hid (HC4.out.later hb)
                clear hb HC4
                go_wp2_with fail
                go_ret
                exact ⟨rfl, HC5.out.below⟩
        · have hkz : ¬ (kk : Int) + (m : Int) ≤ 24 := by omega
          have HC2 := Lib.hid (HC.out.later R2.out.bel)
          have hI1 := R2.out.oa.at (by rw [tsF_len]; omega)
          have hI2 := R2.out.ob.at (by rw [dsK_len]; omega)
          have hear := earliest_any (fuC kk w.heap.size) (.slice ax kk mx) u11 (tsF kk 0) (dsK d kk 0) 0 11 wc HC2.out.cal hI1 hI2 R2.out.nilA
          rw [fu_nextE kk _ d 0 (by omega) (by omega), fu_nextD kk _ d 0 (by omega) (by omega)] at hear
          have HEAR := Lib.hid hear
          have HFIT := Lib.hid (fun (W : World) (hW : Below wc.heap.size wc W) => show Calls Try.prog 28 #[.agg #[.slice (some ⟨w.heap.size + 1 + 1, 0, none⟩) 2 2, .slice (some ⟨w.heap.size + 1 + 1 + 1, 0, none⟩) 2 2, .slice (some ⟨w.heap.size + 1 + 1 + 1 + 1, 0, none⟩) 2 2], (.slice ax kk mx), u11] W fun e w' => e = .returned (.int .i64 0) ∧ Below W.heap.size W w' from by
            have hf := fits_any (fuC kk w.heap.size) (.slice ax kk mx) u11 (tsF kk 0) (dsK d kk 0) W (HC2.out.cal.below hW) (hI1.below hW) (hI2.below hW) R2.out.nilA
            rw [fu_under kk _ d 0 (by omega) (by omega)] at hf
            exact hf)
          clear hear hI1 hI2
          have d0 := HC2.out.d0
          have d1 := HC2.out.d1
          have d2 := HC2.out.d2
          simp only [fuC] at d0 d1 d2
          by_cases hpos : 0 < kk
          · rw [if_pos hpos] at HEAR
            have hposz : (0 : Int) < (kk : Int) := by omega
            go_wp2_with fail
            refine HEAR.out.mono ?_
            rintro e w5 ⟨rfl, hb⟩
            have HC3 := Lib.hid (HC2.out.later hb)
            have hfit := HFIT.out w5 hb
            have d0 := HC3.out.d0
            have d1 := HC3.out.d1
            have d2 := HC3.out.d2
            simp only [fuC] at d0 d1 d2
            have HFI := Lib.hid hfit
            clear hb hfit HEAR HFIT HC2
            go_wp2_with fail
            refine HFI.out.mono ?_
            rintro e w6 ⟨rfl, hb⟩
            have HC4 := Lib.hid (HC3.out.later hb)
            clear hb HFI HC3
            go_wp2_with fail
            refine (awake_any _).mono ?_
            rintro e w7 ⟨rfl, hb⟩
            have HC5 := Lib.hid (HC4.out.later hb)
            clear hb HC4
            go_wp2_with fail
            go_ret
            exact ⟨rfl, HC5.out.below⟩
          · rw [if_neg hpos] at HEAR
            have hposz : ¬ (0 : Int) < (kk : Int) := by omega
            go_wp2_with fail
            refine HEAR.out.mono ?_
            rintro e w5 ⟨rfl, hb⟩
            have HC3 := Lib.hid (HC2.out.later hb)
            have hfit := HFIT.out w5 hb
            have d0 := HC3.out.d0
            have d1 := HC3.out.d1
            have d2 := HC3.out.d2
            simp only [fuC] at d0 d1 d2
            have HFI := Lib.hid hfit
            clear hb hfit HEAR HFIT HC2
            go_wp2_with fail
            refine HFI.out.mono ?_
            rintro e w6 ⟨rfl, hb⟩
            have HC4 := Lib.hid (HC3.out.later hb)
            clear hb HFI HC3
            go_wp2_with fail
            refine (awake_any _).mono ?_
            rintro e w7 ⟨rfl, hb⟩
            have HC5 := Lib.hid (HC4.out.later hb)
            clear hb HC4
            go_wp2_with fail
            go_ret
            exact ⟨rfl, HC5.out.below⟩
end Go.Proofs.Ytpbahffkhpfakaa


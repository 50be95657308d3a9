import Derived.Test.YtpjcaanlagibpaaLedM
import Derived.Test.YtpjcaanlagibpaaLawKn
import Derived.Deep.RegionHeld3
namespace Go.Proofs.Ytpjcaanlagibpaa
open Go.RowKit
set_option linter.unusedSimpArgs false
set_option linter.unusedVariables false

set_option maxRecDepth 100000 in
set_option maxHeartbeats 1000000 in
theorem llat_heavy (a : Option Addr) (len cap y z : Nat) (w : World) (hl : 400 < len) (hm : (len : Int) ≤ 9223372036854775807) :
    Calls Try.prog 8 #[.slice a len cap, .int .u8 y, .int .u8 z] w fun e w' => e = .returned (.bool true) ∧ Below w.heap.size w w' := by
  have h1 := fun w1 => light_any a len cap w1 hm
  have hd : decide (len ≤ 400) = false := decide_eq_false (by omega)
  rw [hd] at h1
  have H1 := Lib.hid h1
  clear h1
  go_enter Try.func8, Try.ntmps8
  go_wp2_with fail
  refine (H1.out _).mono ?_
  rintro e w1 ⟨rfl, rfl⟩
  go_wp2_with fail
  refine (wake_any _).mono ?_
  rintro e w1 ⟨rfl, hb⟩
  have HB := Lib.hid hb
  clear hb
  go_wp2_with fail
  go_ret
  exact ⟨rfl, HB.out⟩

theorem latest_new (ds : List Dec) (x : Dec) : latestOf (upTo (ds ++ [x]) x.day) x.kind x.subject = some x := by
  simp [latestOf, upTo, List.filter_append, hits]

def decOr (o : Option Dec) : Dec := o.getD ⟨0, 0, 0, 0, 0⟩
theorem decOr_val (o : Option Dec) : (o.map Dec.val).getD zeroDec = (decOr o).val := by cases o <;> rfl

/-- what the law's own loop has behind i of the decisions -/
def wantL (ds : List Dec) (k s day : Int) (i : Nat) : Option Dec := latestOf (upTo (ds.take i) day) k s
theorem wantL_zero (ds : List Dec) (k s day : Int) : wantL ds k s day 0 = none := by simp [wantL, upTo, latestOf]
theorem wantL_all (ds : List Dec) (k s day : Int) : wantL ds k s day ds.length = latestOf (upTo ds day) k s := by unfold wantL; rw [List.take_length]
theorem wantL_yes {ds : List Dec} {k s day : Int} {i : Nat} (h : i < ds.length) (h1 : ds[i].kind = k) (h2 : ds[i].subject = s) (h3 : ds[i].day ≤ day) : wantL ds k s day (i + 1) = some ds[i] := by
  unfold wantL upTo latestOf
  have e : ds.take (i + 1) = ds.take i ++ [ds[i]] := by rw [List.take_add_one, List.getElem?_eq_getElem h]; rfl
  rw [e, List.filter_append]
  simp [h3, hits, h1, h2]
theorem wantL_no {ds : List Dec} {k s day : Int} {i : Nat} (h : i < ds.length) (hn : ¬ (ds[i].kind = k ∧ ds[i].subject = s ∧ ds[i].day ≤ day)) : wantL ds k s day (i + 1) = wantL ds k s day i := by
  unfold wantL upTo latestOf
  have e : ds.take (i + 1) = ds.take i ++ [ds[i]] := by rw [List.take_add_one, List.getElem?_eq_getElem h]; rfl
  rw [e, List.filter_append]
  by_cases h3 : ds[i].day ≤ day
  · have hh : hits k s ds[i] = false := by
      simp only [hits, Bool.and_eq_false_iff, decide_eq_false_iff_not]
      by_cases h1 : ds[i].kind = k
      · exact .inr fun h2 => hn ⟨h1, h2, h3⟩
      · exact .inl h1
    simp [h3, hh]
  · simp [h3]

theorem latest_or (v : Value) (ds : List Dec) (k s day : Int) (w : World) (h : SliceDecs w v ds) (hok : OKs ds) (hl : ds.length ≤ 1000) :
    Calls Try.prog 28 #[.agg #[v], .int .i64 k, .int .i64 s, .int .i64 day] w fun e w' => e = .returned (.tuple #[.agg #[.int .i64 (decOr (latestOf (upTo ds day) k s)).day, .int .i64 (decOr (latestOf (upTo ds day) k s)).known, .int .i64 (decOr (latestOf (upTo ds day) k s)).kind, .int .i64 (decOr (latestOf (upTo ds day) k s)).subject, .int .i64 (decOr (latestOf (upTo ds day) k s)).value], .bool (latestOf (upTo ds day) k s).isSome]) ∧ Below w.heap.size w w' := by
  refine (latest_any v ds k s day w h hok hl).mono ?_
  rintro e w' ⟨h1, h2⟩
  rw [decOr_val] at h1
  exact ⟨h1, h2⟩

theorem store_alloc {wr A : World} {B n : Nat} {d0 : Dec} (hB : Below n A wr) (hn : n ≤ B) (hd : DecAt wr B 0 d0) (hf : ∀ o, wr.frozen? ⟨B, o, none⟩ = false) (hl : B < wr.heap.size) (x0 x1 x2 x3 x4 : Int) (o : Obj) :
    Below n A ((((((wr.setCell ⟨B, 0, none⟩ (.int .i64 x0)).setCell ⟨B, 1, none⟩ (.int .i64 x1)).setCell ⟨B, 2, none⟩ (.int .i64 x2)).setCell ⟨B, 3, none⟩ (.int .i64 x3)).setCell ⟨B, 4, none⟩ (.int .i64 x4)).alloc o) ∧
    DecAt ((((((wr.setCell ⟨B, 0, none⟩ (.int .i64 x0)).setCell ⟨B, 1, none⟩ (.int .i64 x1)).setCell ⟨B, 2, none⟩ (.int .i64 x2)).setCell ⟨B, 3, none⟩ (.int .i64 x3)).setCell ⟨B, 4, none⟩ (.int .i64 x4)).alloc o) B 0 ⟨x0, x1, x2, x3, x4⟩ ∧
    (∀ i, ((((((wr.setCell ⟨B, 0, none⟩ (.int .i64 x0)).setCell ⟨B, 1, none⟩ (.int .i64 x1)).setCell ⟨B, 2, none⟩ (.int .i64 x2)).setCell ⟨B, 3, none⟩ (.int .i64 x3)).setCell ⟨B, 4, none⟩ (.int .i64 x4)).alloc o).frozen? ⟨B, i, none⟩ = false) ∧
    B < ((((((wr.setCell ⟨B, 0, none⟩ (.int .i64 x0)).setCell ⟨B, 1, none⟩ (.int .i64 x1)).setCell ⟨B, 2, none⟩ (.int .i64 x2)).setCell ⟨B, 3, none⟩ (.int .i64 x3)).setCell ⟨B, 4, none⟩ (.int .i64 x4)).alloc o).heap.size := by
  have h1 := ((((hB.setCell (p := ⟨B, 0, none⟩) hn (.int .i64 x0)).setCell (p := ⟨B, 1, none⟩) hn (.int .i64 x1)).setCell (p := ⟨B, 2, none⟩) hn (.int .i64 x2)).setCell (p := ⟨B, 3, none⟩) hn (.int .i64 x3)).setCell (p := ⟨B, 4, none⟩) hn (.int .i64 x4)
  have h2 := nest5_at wr B d0 ⟨x0, x1, x2, x3, x4⟩ hd
  have h3 := nest5_frozen wr B (.int .i64 x0) (.int .i64 x1) (.int .i64 x2) (.int .i64 x3) (.int .i64 x4)
  have h4 := nest5_size wr B (.int .i64 x0) (.int .i64 x1) (.int .i64 x2) (.int .i64 x3) (.int .i64 x4)
  change Below n A ((nest5 wr B (.int .i64 x0) (.int .i64 x1) (.int .i64 x2) (.int .i64 x3) (.int .i64 x4)).alloc o) ∧ DecAt ((nest5 wr B (.int .i64 x0) (.int .i64 x1) (.int .i64 x2) (.int .i64 x3) (.int .i64 x4)).alloc o) B 0 ⟨x0, x1, x2, x3, x4⟩ ∧ (∀ i, ((nest5 wr B (.int .i64 x0) (.int .i64 x1) (.int .i64 x2) (.int .i64 x3) (.int .i64 x4)).alloc o).frozen? ⟨B, i, none⟩ = false) ∧ B < ((nest5 wr B (.int .i64 x0) (.int .i64 x1) (.int .i64 x2) (.int .i64 x3) (.int .i64 x4)).alloc o).heap.size
  change Below n A (nest5 wr B (.int .i64 x0) (.int .i64 x1) (.int .i64 x2) (.int .i64 x3) (.int .i64 x4)) at h1
  generalize nest5 wr B (.int .i64 x0) (.int .i64 x1) (.int .i64 x2) (.int .i64 x3) (.int .i64 x4) = V at *
  have hb : Below V.heap.size V (V.alloc o) := (Below.refl _ _).alloc (Nat.le_refl _) _
  exact ⟨h1.trans (hb.mono (by omega)), h2.of_cells (fun i => hb.cell (p := ⟨B, i, none⟩) (by show B < _; omega)), fun i => (hb.frozen (p := ⟨B, i, none⟩) (by show B < _; omega)).trans ((h3 _).trans (hf i)), by have := hb.size; omega⟩

/-- what lies when the law's ledger and its last decision are there -/
structure Lat (p B : Nat) (w1 W : World) (v : Value) (ds : List Dec) (la lk lc ls lv : Nat) : Prop where
  dg : Dg p w1 W
  cell : W.cell? ⟨B, 0, none⟩ = some v
  sd : SliceDecs W v ds
  last : DecAt W (B + 1) 0 ⟨la, lk, lc, ls, lv⟩
  size : B + 2 ≤ W.heap.size
  isl : IsLast ds la lk lc ls lv
  oks : OKs ds
  len : ds.length ≤ 12
  ge : w1.heap.size ≤ B
  a2 : la ≤ 24
  k2 : lk ≤ 12
  ne : ∀ g n m, v = .slice (some ⟨g, 0, none⟩) n m → g ≠ p

theorem keep2 {p B : Nat} {W v : World} {x0 x1 : Value} (hB : B ≠ p) (hlt : B < W.heap.size) (c0 : W.cell? ⟨B, 0, none⟩ = some x0) (c1 : W.cell? ⟨B, 1, none⟩ = some x1) (hK : Dk p W v) (o : Obj) :
    (v.alloc o).cell? ⟨B, 0, none⟩ = some x0 ∧ (v.alloc o).cell? ⟨B, 1, none⟩ = some x1 := by
  have hs := hK.size
  constructor
  · rw [World.cell?_alloc_past _ _ _ (by show B < _; omega)]; exact (hK.cell hB).trans c0
  · rw [World.cell?_alloc_past _ _ _ (by show B < _; omega)]; exact (hK.cell hB).trans c1

theorem Dk.dice_alloc {p : Nat} {W v : World} (hK : Dk p W v) (o : Obj) : DiceAt (v.alloc o) p :=
  hK.dice.below (((Below.refl _ _).alloc (Nat.le_refl _) o).mono hK.dice.1)

/-- a block for a decision lies beyond W's, and the dice may have moved on -/
structure Al (p : Nat) (W v : World) : Prop where
  dg : Dg p W v
  size : v.heap.size = W.heap.size + 1
  dec : DecAt v W.heap.size 0 ⟨0, 0, 0, 0, 0⟩
  free : ∀ o, v.frozen? ⟨W.heap.size, o, none⟩ = false

theorem Al.of_alloc {p : Nat} {W v v' : World} (hp : p < W.heap.size) (hK : Dk p W v) (hk : Dk p (v.alloc (.cells #[.int .i64 0, .int .i64 0, .int .i64 0, .int .i64 0, .int .i64 0] 27)) v') : Al p W v' := by
  have hs := hK.size
  have hs2 := hk.size
  simp only [World.size_alloc] at hs2
  refine ⟨(hK.dg.trans (Dg.of_below ((Below.refl _ _).alloc (Nat.le_refl _) _) hK.dice)).trans hk.dg, by omega, ?_, ?_⟩
  · have h0 : DecAt (v.alloc (.cells #[.int .i64 0, .int .i64 0, .int .i64 0, .int .i64 0, .int .i64 0] 27)) W.heap.size 0 ⟨0, 0, 0, 0, 0⟩ := by
      rw [← hs]
      exact ⟨World.cell?_alloc_at _ _ _ _ rfl, World.cell?_alloc_at _ _ _ _ rfl, World.cell?_alloc_at _ _ _ _ rfl, World.cell?_alloc_at _ _ _ _ rfl, World.cell?_alloc_at _ _ _ _ rfl⟩
    exact h0.of_cells (fun i => hk.cell (x := ⟨W.heap.size, i, none⟩) (by show W.heap.size ≠ p; omega))
  · intro o
    rw [hk.frozen (x := ⟨W.heap.size, o, none⟩) (by show W.heap.size ≠ p; omega), ← hs, frozen?_alloc_cells]
    exact frozen_beyond _ _ _ (Nat.le_refl _)

theorem Al.next {p : Nat} {W v v' : World} (hp : p < W.heap.size) (h : Al p W v) (hk : Dk p v v') : Al p W v' :=
  ⟨h.dg.trans hk.dg, hk.size.trans h.size, h.dec.of_cells (fun i => hk.cell (x := ⟨W.heap.size, i, none⟩) (by show W.heap.size ≠ p; omega)), fun o => (hk.frozen (x := ⟨W.heap.size, o, none⟩) (by show W.heap.size ≠ p; omega)).trans (h.free o)⟩

theorem Al.both {p b : Nat} {W v : World} (h : Al p W v) (hb : b = W.heap.size) :
    v.cell? ⟨b, 0, none⟩ = some (.int .i64 0) ∧ v.cell? ⟨b, 1, none⟩ = some (.int .i64 0) ∧ v.cell? ⟨b, 2, none⟩ = some (.int .i64 0) ∧ v.cell? ⟨b, 3, none⟩ = some (.int .i64 0) ∧ v.cell? ⟨b, 4, none⟩ = some (.int .i64 0) ∧
    v.frozen? ⟨b, 0, none⟩ = false ∧ v.frozen? ⟨b, 1, none⟩ = false ∧ v.frozen? ⟨b, 2, none⟩ = false ∧ v.frozen? ⟨b, 3, none⟩ = false ∧ v.frozen? ⟨b, 4, none⟩ = false := by
  subst hb
  obtain ⟨r0, r1, r2, r3, r4⟩ := h.dec
  simp only [Nat.zero_add] at r0 r1 r2 r3 r4
  exact ⟨r0, r1, r2, r3, r4, h.free 0, h.free 1, h.free 2, h.free 3, h.free 4⟩

theorem Al.keep {p B : Nat} {W v : World} {x0 x1 : Value} (hB : B ≠ p) (hlt : B < W.heap.size) (c0 : W.cell? ⟨B, 0, none⟩ = some x0) (c1 : W.cell? ⟨B, 1, none⟩ = some x1) (h : Al p W v) :
    v.cell? ⟨B, 0, none⟩ = some x0 ∧ v.cell? ⟨B, 1, none⟩ = some x1 :=
  ⟨(h.dg.cell (x := ⟨B, 0, none⟩) hB hlt).trans c0, (h.dg.cell (x := ⟨B, 1, none⟩) hB hlt).trans c1⟩

theorem Al.kept {p B b : Nat} {W v : World} {x0 x1 : Value} (hB : B ≠ p) (hlt : B < W.heap.size) (c0 : W.cell? ⟨B, 0, none⟩ = some x0) (c1 : W.cell? ⟨B, 1, none⟩ = some x1) (h : Al p W v) (hb : b = W.heap.size) (y0 y1 y2 y3 y4 : Value) :
    (nest5 v b y0 y1 y2 y3 y4).cell? ⟨B, 0, none⟩ = some x0 ∧ (nest5 v b y0 y1 y2 y3 y4).cell? ⟨B, 1, none⟩ = some x1 := by
  subst hb
  have hf := nest5_far v W.heap.size y0 y1 y2 y3 y4
  have hk := h.keep hB hlt c0 c1
  exact ⟨(hf ⟨B, 0, none⟩ (by show B ≠ _; omega)).trans hk.1, (hf ⟨B, 1, none⟩ (by show B ≠ _; omega)).trans hk.2⟩

theorem Al.kept' {p B b : Nat} {W v : World} {x0 x1 : Value} (hB : B ≠ p) (hlt : B < W.heap.size) (c0 : W.cell? ⟨B, 0, none⟩ = some x0) (c1 : W.cell? ⟨B, 1, none⟩ = some x1) (h : Al p W v) (hb : b = W.heap.size) (y0 y1 y2 y3 y4 : Value) :
    (((((v.setCell ⟨b, 0, none⟩ y0).setCell ⟨b, 1, none⟩ y1).setCell ⟨b, 2, none⟩ y2).setCell ⟨b, 3, none⟩ y3).setCell ⟨b, 4, none⟩ y4).cell? ⟨B, 0, none⟩ = some x0 ∧ (((((v.setCell ⟨b, 0, none⟩ y0).setCell ⟨b, 1, none⟩ y1).setCell ⟨b, 2, none⟩ y2).setCell ⟨b, 3, none⟩ y3).setCell ⟨b, 4, none⟩ y4).cell? ⟨B, 1, none⟩ = some x1 :=
  h.kept hB hlt c0 c1 hb y0 y1 y2 y3 y4

theorem keep3 {B : Nat} {W : World} {x0 x1 : Value} (hlt : B < W.heap.size) (c0 : W.cell? ⟨B, 0, none⟩ = some x0) (c1 : W.cell? ⟨B, 1, none⟩ = some x1) (o : Obj) :
    (W.alloc o).drew.cell? ⟨B, 0, none⟩ = some x0 ∧ (W.alloc o).drew.cell? ⟨B, 1, none⟩ = some x1 :=
  ⟨(World.cell?_alloc_past _ _ _ hlt).trans c0, (World.cell?_alloc_past _ _ _ hlt).trans c1⟩

theorem dice_alloc_drew {p : Nat} {W : World} (h : DiceAt W p) (o : Obj) : DiceAt (W.alloc o).drew p :=
  (h.below (((Below.refl _ _).alloc (Nat.le_refl _) o).mono h.1)).drewN 1

theorem Dk.keep {p B : Nat} {W v : World} {x0 x1 : Value} (hB : B ≠ p) (c0 : W.cell? ⟨B, 0, none⟩ = some x0) (c1 : W.cell? ⟨B, 1, none⟩ = some x1) (hK : Dk p W v) :
    v.cell? ⟨B, 0, none⟩ = some x0 ∧ v.cell? ⟨B, 1, none⟩ = some x1 := ⟨(hK.cell hB).trans c0, (hK.cell hB).trans c1⟩

/-- the new decision lies in a block of its own beyond W's -/
structure Nw (p : Nat) (W Wf : World) (x : Dec) : Prop where
  dg : Dg p W Wf
  size : Wf.heap.size = W.heap.size + 1
  dec : DecAt Wf W.heap.size 0 x

structure NewX (p : Nat) (W Wf : World) (fa fk kn sn ra rb da : Nat) : Prop where
  nw : Nw p W Wf ⟨da, fk, kn, sn, rb⟩
  ra2 : ra < 2
  rb2 : rb < 2
  eq : da = fa + ra

theorem Nw.plain {p : Nat} {W v : World} (hK : Dk p W v) (x : Dec) : Nw p W (v.alloc (.cells #[.int .i64 x.day, .int .i64 x.known, .int .i64 x.kind, .int .i64 x.subject, .int .i64 x.value] 27)) x := by
  have hs := hK.size
  refine ⟨hK.dg.trans (Dg.of_below ((Below.refl _ _).alloc (Nat.le_refl _) _) hK.dice), by simp [hs], ?_⟩
  rw [← hs]
  exact ⟨World.cell?_alloc_at _ _ _ _ rfl, World.cell?_alloc_at _ _ _ _ rfl, World.cell?_alloc_at _ _ _ _ rfl, World.cell?_alloc_at _ _ _ _ rfl, World.cell?_alloc_at _ _ _ _ rfl⟩

theorem Nw.stored {p : Nat} {W v : World} (hp : p < W.heap.size) (h : Al p W v) (x : Dec) : Nw p W (((((v.setCell ⟨W.heap.size, 0, none⟩ (.int .i64 x.day)).setCell ⟨W.heap.size, 1, none⟩ (.int .i64 x.known)).setCell ⟨W.heap.size, 2, none⟩ (.int .i64 x.kind)).setCell ⟨W.heap.size, 3, none⟩ (.int .i64 x.subject)).setCell ⟨W.heap.size, 4, none⟩ (.int .i64 x.value)) x :=
  ⟨((((h.dg.setCell (Nat.le_refl _) (by show W.heap.size ≠ p; omega) hp _).setCell (Nat.le_refl _) (by show W.heap.size ≠ p; omega) hp _).setCell (Nat.le_refl _) (by show W.heap.size ≠ p; omega) hp _).setCell (Nat.le_refl _) (by show W.heap.size ≠ p; omega) hp _).setCell (Nat.le_refl _) (by show W.heap.size ≠ p; omega) hp _,
   (nest5_size v W.heap.size _ _ _ _ _).trans h.size, nest5_at v W.heap.size _ x h.dec⟩

set_option maxRecDepth 100000 in
set_option maxHeartbeats 2000000 in
theorem llat_light (a : Option Addr) (len cap y z : Nat) (w : World) (hl : len ≤ 400) (hr : RowAt w w.heap.size a len) (hy : y < 256) (hz : z < 256) :
    Calls Try.prog 8 #[.slice a len cap, .int .u8 y, .int .u8 z] w fun e w' => e = .returned (.bool true) ∧ Below w.heap.size w w' := by
  have h1 := fun w1 => light_any a len cap w1 (by omega)
  have hd : decide (len ≤ 400) = true := decide_eq_true (by omega)
  rw [hd] at h1
  have H1 := Lib.hid h1
  have H2 := Lib.hid (roll_any a len cap w hl hr)
  have hyi : (y : Int) < 256 := by omega
  have hzi : (z : Int) < 256 := by omega
  clear h1 hr hd
  go_enter Try.func8, Try.ntmps8
  go_wp2_with fail
  refine (H1.out _).mono ?_
  rintro e w1 ⟨rfl, rfl⟩
  go_wp2_with fail
  refine H2.out.mono ?_
  rintro e w1 ⟨rfl, hb1, hz1, hd1⟩
  have HB1 := Lib.hid hb1
  have HZ1 := Lib.hid hz1
  have HD1 := Lib.hid hd1
  have H3 := Lib.hid (ledger_more w.heap.size 12 w1 hd1 (by omega))
  clear hb1 hz1 hd1 H1 H2
  go_wp2_with fail
  refine H3.out.mono ?_
  rintro e w2 ⟨v, ds, la, lk, lc, ls, lv, rfl, hoks, hlen, hisl, ha2, hk2, hown, hdg⟩
  have hsd := hown.slice
  obtain ⟨ad, m, rfl⟩ := hsd.form
  have HSD := Lib.hid hsd
  have HNE : Hid (∀ g n m', Value.slice ad ds.length m = .slice (some ⟨g, 0, none⟩) n m' → g ≠ w.heap.size) := Lib.hid (fun g n m' e => by
    have := (hown.lt g (by rw [e]; simp [Value.ownBlock])).1
    have := HZ1.out
    omega)
  have HOK := Lib.hid hoks
  have HISL := Lib.hid hisl
  have HDG := Lib.hid hdg
  have hlen2 : (ds.length : Int) ≤ 12 := by omega
  clear hsd hoks hisl hdg H3 hown
  have cl : World.cell? ((w2.alloc (.cells #[.slice ad ds.length m] 25)).alloc (.cells #[.int .i64 0, .int .i64 0, .int .i64 0, .int .i64 0, .int .i64 0] 27)) ⟨w2.heap.size, 0, none⟩ = some (.slice ad ds.length m) := by
    rw [World.cell?_alloc_past _ _ _ (by simp)]; exact World.cell?_alloc_at _ _ _ _ rfl
  have hbb : Below w2.heap.size w2 ((w2.alloc (.cells #[.slice ad ds.length m] 25)).alloc (.cells #[.int .i64 0, .int .i64 0, .int .i64 0, .int .i64 0, .int .i64 0] 27)) := ((Below.refl _ _).alloc (Nat.le_refl _) _).alloc (by simp) _
  have hkn : (1 : Int) + (y : Int) % 5 = ((1 + y % 5 : Nat) : Int) := by omega
  have hsn : (z : Int) % 3 = ((z % 3 : Nat) : Int) := by omega
  have hkb : 1 + y % 5 ≤ 5 ∧ 1 ≤ 1 + y % 5 := by omega
  have hsb : z % 3 ≤ 2 := by omega
  have HKN := Lib.hid hkn
  have HSN := Lib.hid hsn
  have HKB := Lib.hid hkb
  have HSB := Lib.hid hsb
  clear hkn hsn hkb hsb
  rcases Nat.eq_zero_or_pos ds.length with h0 | h0
  case' inl =>
    have hds : ds = [] := List.eq_nil_of_length_eq_zero h0
    subst hds
    have HL : Hid (Lat w.heap.size w2.heap.size w1 ((w2.alloc (.cells #[.slice ad 0 m] 25)).alloc (.cells #[.int .i64 0, .int .i64 0, .int .i64 0, .int .i64 0, .int .i64 0] 27)) (.slice ad 0 m) [] 0 0 0 0 0) := Lib.hid ⟨HDG.out.trans (Dg.of_below hbb HDG.out.dice), cl, HSD.out.below hbb, ⟨World.cell?_alloc_at _ _ _ _ (by simp), World.cell?_alloc_at _ _ _ _ (by simp), World.cell?_alloc_at _ _ _ _ (by simp), World.cell?_alloc_at _ _ _ _ (by simp), World.cell?_alloc_at _ _ _ _ (by simp)⟩, by simp, .inl ⟨rfl, rfl, rfl⟩, OKs.nil, by simp, HDG.out.size, by omega, by omega, HNE.out⟩
    clear hbb
    go_wp2_with fail
    generalize ((w2.alloc (.cells #[.slice ad 0 m] 25)).alloc (.cells #[.int .i64 0, .int .i64 0, .int .i64 0, .int .i64 0, .int .i64 0] 27)) = W4 at *
    rw [HKN.out, HSN.out]
    generalize (1 + y % 5 : Nat) = kn at *
    generalize (z % 3 : Nat) = sn at *
    generalize w2.heap.size = B2 at *
    obtain ⟨ds, hds'⟩ : ∃ ds, ds = ([] : List Dec) := ⟨_, rfl⟩
    have hl' : (0 : Nat) = ds.length := by rw [hds']; rfl
    rw [← hds'] at HL
    obtain ⟨fa, hla'⟩ : ∃ fa, fa = (0 : Nat) := ⟨_, rfl⟩
    obtain ⟨fk, hlb'⟩ : ∃ fk, fk = (0 : Nat) := ⟨_, rfl⟩
    obtain ⟨fc, hlc'⟩ : ∃ fc, fc = (0 : Nat) := ⟨_, rfl⟩
    obtain ⟨fs, hld'⟩ : ∃ fs, fs = (0 : Nat) := ⟨_, rfl⟩
    obtain ⟨fv, hle'⟩ : ∃ fv, fv = (0 : Nat) := ⟨_, rfl⟩
    replace HL : Hid (Lat w.heap.size B2 w1 W4 (.slice ad ds.length m) ds fa fk fc fs fv) := Lib.hid (by rw [← hl', hla', hlb', hlc', hld', hle']; exact HL.out)
    clear hla' hlb' hlc' hld' hle' hds' hl' hlen ha2 hk2 HNE HSD HOK HISL HDG hlen2 h0 cl
  case' inr =>
    have hlast : ds.getLast? = some ⟨la, lk, lc, ls, lv⟩ := by
      rcases HISL.out with ⟨h, _⟩ | h
      · rw [h] at h0; simp at h0
      · exact h
    obtain ⟨g, rfl, hdc⟩ : ∃ g, ad = some ⟨g, 0, none⟩ ∧ DecAt w2 g (0 + (ds.length - 1) * 5) ⟨la, lk, lc, ls, lv⟩ ∧ g < w2.heap.size := by
      rcases HSD.out with ⟨_, h5⟩ | ⟨g, cap2, h5, h6, _, h7⟩
      · rw [h5] at h0; simp at h0
      · injection h5 with h7' h8 h9
        refine ⟨g, h7', ?_, h6⟩
        have h8 := h7 (ds.length - 1) (by omega)
        have h9 : ds[ds.length - 1]'(by omega) = ⟨la, lk, lc, ls, lv⟩ := by
          rw [List.getLast?_eq_getElem?, List.getElem?_eq_getElem (by omega)] at hlast
          exact Option.some.inj hlast
        rw [h9] at h8
        exact h8
    obtain ⟨hdc, hgl⟩ := hdc
    obtain ⟨x0, x1, x2, x3, x4⟩ := hdc.of_cells (fun o => hbb.cell (p := ⟨g, o, none⟩) hgl)
    have hpos : (0 : Int) < (ds.length : Int) := by omega
    have HLA := Lib.hid hlast
    have hpi : (ds.length : Int) - 1 = ((ds.length - 1 : Nat) : Int) := by omega
    have hpl : ((ds.length - 1 : Nat) : Int) < (ds.length : Int) := by omega
    have hp12 : ((ds.length - 1 : Nat) : Int) ≤ 12 := by omega
    have HBB := Lib.hid hbb
    have HPI := Lib.hid hpi
    have HCL := Lib.hid cl
    simp only [Nat.zero_add] at x0 x1 x2 x3 x4
    clear hlast hbb hdc
    generalize hpp : ds.length - 1 = p at *
    clear hpp
    go_wp2_with fail
    have HL : Hid (Lat w.heap.size w2.heap.size w1 ((w2.alloc (.cells #[.slice (some ⟨g, 0, none⟩) ds.length m] 25)).alloc (.cells #[.int .i64 la, .int .i64 lk, .int .i64 lc, .int .i64 ls, .int .i64 lv] 27)) (.slice (some ⟨g, 0, none⟩) ds.length m) ds la lk lc ls lv) := by
      have hbb2 : Below w2.heap.size w2 ((w2.alloc (.cells #[.slice (some ⟨g, 0, none⟩) ds.length m] 25)).alloc (.cells #[.int .i64 la, .int .i64 lk, .int .i64 lc, .int .i64 ls, .int .i64 lv] 27)) := ((Below.refl _ _).alloc (Nat.le_refl _) _).alloc (by simp) _
      exact Lib.hid ⟨HDG.out.trans (Dg.of_below hbb2 HDG.out.dice), (by rw [World.cell?_alloc_past _ _ _ (by simp)]; exact World.cell?_alloc_at _ _ _ _ rfl), HSD.out.below hbb2, ⟨World.cell?_alloc_at _ _ _ _ (by simp), World.cell?_alloc_at _ _ _ _ (by simp), World.cell?_alloc_at _ _ _ _ (by simp), World.cell?_alloc_at _ _ _ _ (by simp), World.cell?_alloc_at _ _ _ _ (by simp)⟩, by simp, HISL.out, HOK.out, hlen, HDG.out.size, by omega, by omega, HNE.out⟩
    generalize ((w2.alloc (.cells #[.slice (some ⟨g, 0, none⟩) ds.length m] 25)).alloc (.cells #[.int .i64 la, .int .i64 lk, .int .i64 lc, .int .i64 ls, .int .i64 lv] 27)) = W4 at *
    rw [HKN.out, HSN.out]
    generalize (1 + y % 5 : Nat) = kn at *
    generalize (z % 3 : Nat) = sn at *
    generalize w2.heap.size = B2 at *
    clear x0 x1 x2 x3 x4 HBB HCL HLA HPI hpl hp12 hpos hlen ha2 hk2 HNE HSD HOK HISL HDG hlen2 h0 cl hgl
    generalize (some (⟨g, 0, none⟩ : Addr)) = ad at *
    generalize la = fa at *
    generalize lk = fk at *
    generalize lc = fc at *
    generalize ls = fs at *
    generalize lv = fv at *
  all_goals (
    have hpw : w.heap.size < w1.heap.size := by have := HZ1.out; omega
    have hBp : B2 ≠ w.heap.size ∧ B2 + 1 ≠ w.heap.size := by have := HL.out.ge; omega
    obtain ⟨c0, c1, _, _, _⟩ := HL.out.last
    simp only [Nat.zero_add] at c0 c1
    have hK : Dk w.heap.size W4 W4.drew := (Dk.refl HL.out.dg.dice).drewN 1
    have hB1 := hBp.2
    have hlt4 : B2 + 1 < W4.heap.size := by have := HL.out.size; omega
    have hp4 : w.heap.size < W4.heap.size := by have := HL.out.ge; omega
    refine Exists.elim (p := fun G : Nat → Nat → Nat → World → Prop => (∀ ra rb da Wf, NewX w.heap.size W4 Wf fa fk kn sn ra rb da → G ra rb da Wf) ∧ ((∀ ra rb da Wf, NewX w.heap.size W4 Wf fa fk kn sn ra rb da → G ra rb da Wf) → _)) ?_ (fun G h => h.2 h.1)
    apply Exists.intro
    apply And.intro
    rotate_left
    focus (
      intro HG
      have HG := Lib.hid HG
      go_region_held3 (fun w' => w'.cell? ⟨B2 + 1, 0, none⟩ = some (.int .i64 fa) ∧ w'.cell? ⟨B2 + 1, 1, none⟩ = some (.int .i64 fk))
        (first | with_reducible exact hK.keep hB1 c0 c1 | with_reducible exact keep3 hlt4 c0 c1 _ | with_reducible exact keep2 hB1 hlt4 c0 c1 hK _ | with_reducible exact hA.keep hB1 hlt4 c0 c1 | with_reducible exact hA.kept' hB1 hlt4 c0 c1 rfl _ _ _ _ _ | with_reducible exact hA.kept' hB1 hlt4 c0 c1 HSZ.out _ _ _ _ _)
        (first
          | (go_at_call 37; (with_reducible refine Calls.mono (next_any w.heap.size _ (World.drew (World.alloc _ _)) (dice_alloc_drew HL.out.dg.dice _) (by decide) (by decide)) ?_); ((first | (have _t := HRA; rintro e v1 ⟨⟨rb, hrb, rfl⟩, hk1⟩; have HRB := Lib.hid hrb; clear hrb _t) | (rintro e v1 ⟨⟨ra, hra, rfl⟩, hk1⟩; have HRA := Lib.hid hra; clear hra)); have hA := Al.of_alloc hp4 hK hk1; have HSZ := Lib.hid hK.size; obtain ⟨r0, r1, r2, r3, r4, f0, f1, f2, f3, f4⟩ := hA.both rfl; obtain ⟨s0, s1, s2, s3, s4, g0, g1, g2, g3, g4⟩ := hA.both HSZ.out))
          | (go_at_call 37; (with_reducible refine Calls.mono (next_any w.heap.size _ (World.alloc _ _) (hK.dice_alloc _) (by decide) (by decide)) ?_); ((first | (have _t := HRA; rintro e v1 ⟨⟨rb, hrb, rfl⟩, hk1⟩; have HRB := Lib.hid hrb; clear hrb _t) | (rintro e v1 ⟨⟨ra, hra, rfl⟩, hk1⟩; have HRA := Lib.hid hra; clear hra)); have hA := Al.of_alloc hp4 hK hk1; have HSZ := Lib.hid hK.size; obtain ⟨r0, r1, r2, r3, r4, f0, f1, f2, f3, f4⟩ := hA.both rfl; obtain ⟨s0, s1, s2, s3, s4, g0, g1, g2, g3, g4⟩ := hA.both HSZ.out))
          | (go_at_call 37; (with_reducible refine Calls.mono (next_any w.heap.size _ _ hK.dice (by decide) (by decide)) ?_); ((first | (have _t := HRA; rintro e v1 ⟨⟨rb, hrb, rfl⟩, hk1⟩; have HRB := Lib.hid hrb; clear hrb _t) | (rintro e v1 ⟨⟨ra, hra, rfl⟩, hk1⟩; have HRA := Lib.hid hra; clear hra)); have hK := hK.trans hk1))
          | (go_at_call 37; (with_reducible refine Calls.mono (next_any w.heap.size _ _ hA.dg.dice (by decide) (by decide)) ?_); ((try clear r0 r1 r2 r3 r4 f0 f1 f2 f3 f4 s0 s1 s2 s3 s4 g0 g1 g2 g3 g4); (first | (have _t := HRA; rintro e v1 ⟨⟨rb, hrb, rfl⟩, hk1⟩; have HRB := Lib.hid hrb; clear hrb _t) | (rintro e v1 ⟨⟨ra, hra, rfl⟩, hk1⟩; have HRA := Lib.hid hra; clear hra)); have hA := hA.next hp4 hk1; obtain ⟨r0, r1, r2, r3, r4, f0, f1, f2, f3, f4⟩ := hA.both rfl; obtain ⟨s0, s1, s2, s3, s4, g0, g1, g2, g3, g4⟩ := hA.both HSZ.out)))
      all_goals (
        have hw := wrap_add fa ra 2 (by have := HL.out.a2; omega) HRA.out (by decide)
        have hra := HRA.out
        have hrb := HRB.out
        rw [hw, show (fa : Int) + (ra : Int) = ((fa + ra : Nat) : Int) from by omega]
        generalize hda : fa + ra = da
        first
          | (have hnw := Nw.plain hK ⟨(da : Int), fk, kn, sn, rb⟩; rw [hK.size]; dsimp only at hnw; generalize v1.alloc (.cells #[.int .i64 da, .int .i64 fk, .int .i64 kn, .int .i64 sn, .int .i64 rb] 27) = Wf at *; exact HG.out ra rb da Wf ⟨hnw, by omega, by omega, hda.symm⟩)
          | (have hnw := Nw.stored hp4 hA ⟨(da : Int), fk, kn, sn, rb⟩; (try rw [HSZ.out]); dsimp only at hnw; generalize ((((v1.setCell ⟨W4.heap.size, 0, none⟩ (.int .i64 da)).setCell ⟨W4.heap.size, 1, none⟩ (.int .i64 fk)).setCell ⟨W4.heap.size, 2, none⟩ (.int .i64 kn)).setCell ⟨W4.heap.size, 3, none⟩ (.int .i64 sn)).setCell ⟨W4.heap.size, 4, none⟩ (.int .i64 rb) = Wf at *; exact HG.out ra rb da Wf ⟨hnw, by omega, by omega, hda.symm⟩)))
    intro ra rb da Wf hX
    have h4 := HL.out
    have hW : Hid (Lat w.heap.size B2 w1 Wf (.slice ad ds.length m) ds fa fk fc fs fv ∧ DecAt Wf W4.heap.size 0 ⟨da, fk, kn, sn, rb⟩ ∧ W4.heap.size < Wf.heap.size) := Lib.hid (by
      have hdg := hX.nw.dg
      have hz := h4.size
      refine ⟨⟨h4.dg.trans hdg, (hdg.cell (x := ⟨B2, 0, none⟩) hBp.1 (by show B2 < _; omega)).trans h4.cell, ?_, h4.last.of_cells (fun i => hdg.cell (x := ⟨B2 + 1, i, none⟩) hBp.2 (by show B2 + 1 < _; omega)), by have := hX.nw.size; omega, h4.isl, h4.oks, h4.len, h4.ge, h4.a2, h4.k2, h4.ne⟩, hX.nw.dec, by have := hX.nw.size; omega⟩
      rcases h4.sd with ⟨h1, h2⟩ | ⟨g, cap, h1, h2, h3, h5⟩
      · exact .inl ⟨h1, h2⟩
      · refine .inr ⟨g, cap, h1, by have := hX.nw.size; omega, h3, fun i hi => (h5 i hi).of_cells (fun o => hdg.cell (x := ⟨g, o, none⟩) (h4.ne _ _ _ h1) h2)⟩)
    have hf := follows_next_ok h4.isl (a' := da) (k' := fk) (c' := kn) (s' := sn) (v' := rb) (by have := hX.eq; omega) (Nat.le_refl _) (by have := hX.eq; have := hX.ra2; have := h4.a2; omega) (by have := h4.k2; omega) HKB.out.2 HKB.out.1 HSB.out (by have := hX.rb2; omega)
    have hl12 := h4.len
    have HAD := Lib.hid (fun w1 (h1 : SliceDecs w1 (.slice ad ds.length m) ds) => add_ok (.slice ad ds.length m) ds ⟨da, fk, kn, sn, rb⟩ w1 h1 (by omega) h4.oks hf)
    have HOK := Lib.hid h4.oks
    have HOX := Lib.hid (h4.oks.snoc hf)
    have HNW := Lib.hid (latest_new ds ⟨da, fk, kn, sn, rb⟩)
    have cl := hW.out.1.cell
    obtain ⟨e0, e1, e2, e3, e4⟩ := hW.out.2.1
    simp only [Nat.zero_add] at e0 e1 e2 e3 e4
    generalize W4.heap.size = X4 at *
    have hxlt := hW.out.2.2
    have HX := Lib.hid hX
    clear h4 hX hf c0 c1 hK hlt4 hp4 HL
    go_wp2_with fail
    refine (HAD.out Wf hW.out.1.sd).mono ?_
    rintro e w5 ⟨v5, rfl, hO5, hb5⟩
    obtain ⟨a5, m5, rfl⟩ := hO5.slice.form
    have hs5 := hO5.slice
    have hbx : Below w5.heap.size w5 (w5.alloc (.cells #[.slice a5 (ds ++ [(⟨da, fk, kn, sn, rb⟩ : Dec)]).length m5] 25)) := (Below.refl _ _).alloc (Nat.le_refl _) _
    have hs6 := hs5.below hbx
    have hb6 : Below Wf.heap.size Wf (w5.alloc (.cells #[.slice a5 (ds ++ [(⟨da, fk, kn, sn, rb⟩ : Dec)]).length m5] 25)) := hb5.alloc hb5.size _
    have hll : (ds ++ [(⟨da, fk, kn, sn, rb⟩ : Dec)]).length ≤ 1000 := by simp; omega
    have hla := latest_or _ _ kn sn da _ hs6 HOX.out hll
    rw [HNW.out] at hla
    have HLA := Lib.hid hla
    have HS6 := Lib.hid hs6
    have HB6 := Lib.hid hb6
    generalize (ds ++ [(⟨da, fk, kn, sn, rb⟩ : Dec)]).length = l5 at *
    have y0 := (hb6.cell (p := ⟨X4, 0, none⟩) hxlt).trans e0
    clear hO5 hb5 hs5 hbx hs6 hb6 hll hla
    go_wp2_with fail
    refine HLA.out.mono ?_
    rintro e w7 ⟨rfl, hb7⟩
    dsimp only [decOr, Option.getD, Option.isSome]
    have HB7 := Lib.hid (HB6.out.trans (hb7.mono HB6.out.size))
    clear y0 hb7 HLA
    go_wp2_with fail
    have hb78 : Below w7.heap.size w7 (w7.alloc (.cells #[.int .i64 da, .int .i64 fk, .int .i64 kn, .int .i64 sn, .int .i64 rb] 27)) := (Below.refl _ _).alloc (Nat.le_refl _) _
    have hb8 := HB7.out.trans (hb78.mono HB7.out.size)
    have HN8 : Hid (DecAt (w7.alloc (.cells #[.int .i64 da, .int .i64 fk, .int .i64 kn, .int .i64 sn, .int .i64 rb] 27)) w7.heap.size 0 ⟨da, fk, kn, sn, rb⟩ ∧ w7.heap.size < (w7.alloc (.cells #[.int .i64 da, .int .i64 fk, .int .i64 kn, .int .i64 sn, .int .i64 rb] 27)).heap.size) := Lib.hid ⟨⟨World.cell?_alloc_at _ _ _ _ rfl, World.cell?_alloc_at _ _ _ _ rfl, World.cell?_alloc_at _ _ _ _ rfl, World.cell?_alloc_at _ _ _ _ rfl, World.cell?_alloc_at _ _ _ _ rfl⟩, by simp⟩
    generalize (w7.alloc (.cells #[.int .i64 da, .int .i64 fk, .int .i64 kn, .int .i64 sn, .int .i64 rb] 27)) = W8 at *
    generalize w7.heap.size = N8 at *
    have hbz := hW.out.1.size
    have HL8 := Lib.hid (show SliceDecs W8 (.slice ad ds.length m) ds ∧ W8.cell? ⟨B2, 0, none⟩ = some (.slice ad ds.length m) ∧ B2 < W8.heap.size from ⟨hW.out.1.sd.below hb8, (hb8.cell (p := ⟨B2, 0, none⟩) (by show B2 < _; omega)).trans hW.out.1.cell, by have := hb8.size; omega⟩)
    have HE8 := Lib.hid (show DecAt W8 X4 0 ⟨da, fk, kn, sn, rb⟩ ∧ X4 < W8.heap.size from ⟨hW.out.2.1.of_cells (fun i => hb8.cell (p := ⟨X4, i, none⟩) hxlt), Nat.lt_of_lt_of_le hxlt hb8.size⟩)
    have HBW := Lib.hid (show Below w.heap.size w W8 from (HB1.out.trans (hW.out.1.dg.below (Nat.le_refl _) HB1.out.size)).trans (hb8.mono (Nat.le_trans HB1.out.size hW.out.1.dg.size)))
    clear hb78 hb8 hbz hxlt cl e0 e1 e2 e3 e4 HB7 hW HB6 HS6 HAD HX
    go_loopw [18] (fun j wr => ∃ k : Nat, k ≤ 30 ∧ j = .int .i64 k ∧ Below W8.heap.size W8 wr) (fun j _ => 30 - (intOf j).toNat)
    case atStart => exact ⟨0, by omega, rfl, Below.refl _ _⟩
    case round =>
      obtain ⟨k, hk, rfl, hb⟩ := hrel
      by_cases hlt : k < 30
      · have hlti : (k : Int) < 30 := by omega
        have cl := (hb.cell (p := ⟨B2, 0, none⟩) HL8.out.2.2).trans HL8.out.2.1
        have HLT := Lib.hid (latest_or (.slice ad ds.length m) ds kn sn k wr (HL8.out.1.below hb) HOK.out (by omega))
        have HWA := Lib.hid (wantL_all ds kn sn k)
        have HB := Lib.hid hb
        clear hb
        generalize hoo : latestOf (upTo ds (k : Int)) (kn : Int) (sn : Int) = o at *
        clear hoo
        generalize hdd : decOr o = d at *
        generalize hss : o.isSome = ob at *
        have HDD := Lib.hid hdd
        have HSS := Lib.hid hss
        clear hdd hss
        go_wp2_with fail
        refine HLT.out.mono ?_
        rintro e w9 ⟨rfl, hb9⟩
        have hb9' := HB.out.trans (hb9.mono HB.out.size)
        have c9 := (hb9'.cell (p := ⟨B2, 0, none⟩) HL8.out.2.2).trans HL8.out.2.1
        have l9 : B2 < w9.heap.size := by have := HL8.out.2.2; have := hb9'.size; omega
        have HB9 := Lib.hid hb9'
        clear hb9 hb9' cl HLT HB
        go_wp2_with fail
        have hba : Below w9.heap.size w9 (w9.alloc (.cells #[.int .i64 d.day, .int .i64 d.known, .int .i64 d.kind, .int .i64 d.subject, .int .i64 d.value] 27)) := (Below.refl _ _).alloc (Nat.le_refl _) _
        have HBA := Lib.hid (HB9.out.trans (hba.mono HB9.out.size))
        have HDA : Hid (DecAt (w9.alloc (.cells #[.int .i64 d.day, .int .i64 d.known, .int .i64 d.kind, .int .i64 d.subject, .int .i64 d.value] 27)) w9.heap.size 0 d) := Lib.hid ⟨World.cell?_alloc_at _ _ _ _ rfl, World.cell?_alloc_at _ _ _ _ rfl, World.cell?_alloc_at _ _ _ _ rfl, World.cell?_alloc_at _ _ _ _ rfl, World.cell?_alloc_at _ _ _ _ rfl⟩
        have HZA : Hid ((w9.alloc (.cells #[.int .i64 d.day, .int .i64 d.known, .int .i64 d.kind, .int .i64 d.subject, .int .i64 d.value] 27)).heap.size = w9.heap.size + 1) := Lib.hid (by simp)
        generalize w9.alloc (.cells #[.int .i64 d.day, .int .i64 d.known, .int .i64 d.kind, .int .i64 d.subject, .int .i64 d.value] 27) = Wa at *
        generalize w9.heap.size = B9 at *
        have H10 : Hid (Below Wa.heap.size Wa (Wa.alloc (.cells #[.int .i64 0, .int .i64 0, .int .i64 0, .int .i64 0, .int .i64 0] 27)) ∧ DecAt (Wa.alloc (.cells #[.int .i64 0, .int .i64 0, .int .i64 0, .int .i64 0, .int .i64 0] 27)) (B9 + 1) 0 (decOr (wantL ds kn sn k 0)) ∧ (∀ o, (Wa.alloc (.cells #[.int .i64 0, .int .i64 0, .int .i64 0, .int .i64 0, .int .i64 0] 27)).frozen? ⟨B9 + 1, o, none⟩ = false) ∧ B9 + 1 < (Wa.alloc (.cells #[.int .i64 0, .int .i64 0, .int .i64 0, .int .i64 0, .int .i64 0] 27)).heap.size) := Lib.hid (by
          rw [← HZA.out, wantL_zero]
          refine ⟨(Below.refl _ _).alloc (Nat.le_refl _) _, ⟨World.cell?_alloc_at _ _ _ _ rfl, World.cell?_alloc_at _ _ _ _ rfl, World.cell?_alloc_at _ _ _ _ rfl, World.cell?_alloc_at _ _ _ _ rfl, World.cell?_alloc_at _ _ _ _ rfl⟩, ?_, by simp⟩
          intro o
          rw [frozen?_alloc_cells]
          exact frozen_beyond _ _ _ (Nat.le_refl _))
        generalize (Wa.alloc (.cells #[.int .i64 0, .int .i64 0, .int .i64 0, .int .i64 0, .int .i64 0] 27)) = W10 at *
        clear hba c9 l9 HB9
        go_loopw [22, 93] (fun f j wr => ∃ i : Nat, i ≤ ds.length ∧ f = .bool (wantL ds kn sn k i).isSome ∧ j = .int .i64 i ∧ Below Wa.heap.size Wa wr ∧ DecAt wr (B9 + 1) 0 (decOr (wantL ds kn sn k i)) ∧ (∀ o, wr.frozen? ⟨B9 + 1, o, none⟩ = false) ∧ B9 + 1 < wr.heap.size) (fun _ j _ => ds.length - (intOf j).toNat)
        case atStart => exact ⟨0, by omega, by rw [wantL_zero]; rfl, rfl, H10.out.1, H10.out.2.1, H10.out.2.2.1, H10.out.2.2.2⟩
        case round =>
          obtain ⟨i, hi, rfl, rfl, hb, hwd, hwf, hwl⟩ := hrel
          have hb8 := HBA.out.trans (hb.mono HBA.out.size)
          by_cases hil : i < ds.length
          · have hili : (i : Int) < (ds.length : Int) := by omega
            obtain ⟨g, hg, hdc⟩ : ∃ g, ad = some ⟨g, 0, none⟩ ∧ DecAt wr g (0 + i * 5) ds[i] := by
              rcases HL8.out.1.below hb8 with ⟨_, h5⟩ | ⟨g, cap2, h5, _, _, h6⟩
              · exact absurd h5 (by intro e; rw [e] at hil; simp at hil)
              · injection h5 with h7 h8 h9
                exact ⟨g, h7, h6 i hil⟩
            subst hg
            obtain ⟨x0, x1, x2, x3, x4⟩ := hdc
            simp only [Nat.zero_add] at x0 x1 x2 x3 x4
            have hi14 : (i : Int) ≤ 14 := by omega
            have hws := wantL_yes (k := kn) (s := sn) (day := k) hil
            have hwn := wantL_no (k := kn) (s := sn) (day := k) hil
            have HWS := Lib.hid hws
            have HWN := Lib.hid hwn
            have HB2 := Lib.hid hb
            have HWD := Lib.hid hwd
            obtain ⟨t0, t1, t2, t3, t4⟩ := hwd
            simp only [Nat.zero_add] at t0 t1 t2 t3 t4
            have f0 := hwf 0
            have f1 := hwf 1
            have f2 := hwf 2
            have f3 := hwf 3
            have f4 := hwf 4
            have HWF := Lib.hid hwf
            clear hws hwn hb hb8 hwf
            generalize ds[i] = y1 at *
            have hba : Below wr.heap.size wr (wr.alloc (.cells #[.int .i64 y1.day, .int .i64 y1.known, .int .i64 y1.kind, .int .i64 y1.subject, .int .i64 y1.value] 27)) := (Below.refl _ _).alloc (Nat.le_refl _) _
            have HBY := Lib.hid (HB2.out.trans (hba.mono HB2.out.size))
            have HDY := Lib.hid (HWD.out.of_cells (w' := wr.alloc (.cells #[.int .i64 y1.day, .int .i64 y1.known, .int .i64 y1.kind, .int .i64 y1.subject, .int .i64 y1.value] 27)) (fun o => hba.cell (p := ⟨B9 + 1, o, none⟩) hwl))
            have HFY := Lib.hid (fun o => (hba.frozen (p := ⟨B9 + 1, o, none⟩) hwl).trans (HWF.out o))
            have HLY := Lib.hid (Nat.lt_of_lt_of_le hwl hba.size)
            clear hba
            have hno : ¬ (y1.kind = (kn : Int) ∧ y1.subject = (sn : Int) ∧ y1.day ≤ (k : Int)) → ∃ i', i' ≤ ds.length ∧ Value.bool (wantL ds kn sn k i).isSome = .bool (wantL ds kn sn k i').isSome ∧ i' = i + 1 ∧ Below Wa.heap.size Wa (wr.alloc (.cells #[.int .i64 y1.day, .int .i64 y1.known, .int .i64 y1.kind, .int .i64 y1.subject, .int .i64 y1.value] 27)) ∧ DecAt (wr.alloc (.cells #[.int .i64 y1.day, .int .i64 y1.known, .int .i64 y1.kind, .int .i64 y1.subject, .int .i64 y1.value] 27)) (B9 + 1) 0 (decOr (wantL ds kn sn k i')) ∧ (∀ o, (wr.alloc (.cells #[.int .i64 y1.day, .int .i64 y1.known, .int .i64 y1.kind, .int .i64 y1.subject, .int .i64 y1.value] 27)).frozen? ⟨B9 + 1, o, none⟩ = false) ∧ B9 + 1 < (wr.alloc (.cells #[.int .i64 y1.day, .int .i64 y1.known, .int .i64 y1.kind, .int .i64 y1.subject, .int .i64 y1.value] 27)).heap.size := by
              intro h
              exact ⟨i + 1, by omega, by rw [HWN.out h], rfl, HBY.out, by rw [HWN.out h]; exact HDY.out, HFY.out, HLY.out⟩
            have HNO := Lib.hid hno
            clear hno
            by_cases hk1 : y1.kind = (kn : Int)
            · by_cases hs1 : y1.subject = (sn : Int)
              · by_cases hd1 : y1.day ≤ (k : Int)
                · have HYS := Lib.hid (HWS.out hk1 hs1 hd1)
                  have HE1 := Lib.hid (show (⟨y1.day, y1.known, kn, sn, y1.value⟩ : Dec) = y1 from by rw [← hk1, ← hs1])
                  have hBge : Wa.heap.size ≤ B9 + 1 := by rw [HZA.out]; exact Nat.le_refl _
                  have HST := Lib.hid (store_alloc HB2.out hBge HWD.out HWF.out hwl y1.day y1.known kn sn y1.value (.cells #[.int .i64 y1.day, .int .i64 y1.known, .int .i64 kn, .int .i64 sn, .int .i64 y1.value] 27))
                  rw [hk1] at x2
                  rw [hs1] at x3
                  clear hk1 hs1 hBge
                  go_wp2_with fail
                  generalize (((((wr.setCell ⟨B9 + 1, 0, none⟩ (.int .i64 y1.day)).setCell ⟨B9 + 1, 1, none⟩ (.int .i64 y1.known)).setCell ⟨B9 + 1, 2, none⟩ (.int .i64 kn)).setCell ⟨B9 + 1, 3, none⟩ (.int .i64 sn)).setCell ⟨B9 + 1, 4, none⟩ (.int .i64 y1.value)).alloc (.cells #[.int .i64 y1.day, .int .i64 y1.known, .int .i64 kn, .int .i64 sn, .int .i64 y1.value] 27) = Wn at *
                  refine ⟨⟨i + 1, by omega, by rw [HYS.out]; rfl, by go_num, HST.out.1, ?_, HST.out.2.2.1, HST.out.2.2.2⟩, by simp [intOf]; omega⟩
                  rw [HYS.out]
                  exact Eq.subst (motive := fun q => DecAt Wn (B9 + 1) 0 q) HE1.out HST.out.2.1
                · obtain ⟨i', q1, q2, rfl, q4, q5, q6, q7⟩ := HNO.out (fun h => hd1 h.2.2)
                  have Q := Lib.hid (And.intro q1 (And.intro q2 (And.intro q4 (And.intro q5 (And.intro q6 q7)))))
                  rw [hk1] at x2 Q
                  rw [hs1] at x3 Q
                  clear q1 q2 q4 q5 q6 q7
                  go_wp2_with fail
                  exact ⟨⟨i + 1, Q.out.1, Q.out.2.1, by go_num, Q.out.2.2.1, Q.out.2.2.2.1, Q.out.2.2.2.2.1, Q.out.2.2.2.2.2⟩, by simp [intOf]; omega⟩
              · obtain ⟨i', q1, q2, rfl, q4, q5, q6, q7⟩ := HNO.out (fun h => hs1 h.2.1)
                have Q := Lib.hid (And.intro q1 (And.intro q2 (And.intro q4 (And.intro q5 (And.intro q6 q7)))))
                rw [hk1] at x2 Q
                clear q1 q2 q4 q5 q6 q7
                go_wp2_with fail
                exact ⟨⟨i + 1, Q.out.1, Q.out.2.1, by go_num, Q.out.2.2.1, Q.out.2.2.2.1, Q.out.2.2.2.2.1, Q.out.2.2.2.2.2⟩, by simp [intOf]; omega⟩
            · obtain ⟨i', q1, q2, rfl, q4, q5, q6, q7⟩ := HNO.out (fun h => hk1 h.1)
              have Q := Lib.hid (And.intro q1 (And.intro q2 (And.intro q4 (And.intro q5 (And.intro q6 q7)))))
              clear q1 q2 q4 q5 q6 q7
              go_wp2_with fail
              exact ⟨⟨i + 1, Q.out.1, Q.out.2.1, by go_num, Q.out.2.2.1, Q.out.2.2.2.1, Q.out.2.2.2.2.1, Q.out.2.2.2.2.2⟩, by simp [intOf]; omega⟩
          · have hie : i = ds.length := by omega
            subst hie
            have hge : ¬ ((ds.length : Int) < (ds.length : Int)) := by omega
            rw [HWA.out] at hwd ⊢
            rw [HDD.out] at hwd
            rw [HSS.out]
            have hda := HDA.out.of_cells (w' := wr) (fun o => hb.cell (p := ⟨B9, o, none⟩) (by show B9 < _; rw [HZA.out]; omega))
            obtain ⟨t0, t1, t2, t3, t4⟩ := hwd
            obtain ⟨u0, u1, u2', u3', u4'⟩ := hda
            simp only [Nat.zero_add] at t0 t1 t2 t3 t4 u0 u1 u2' u3' u4'
            have HB8 := Lib.hid hb8
            clear hb hb8 hwf hwl
            go_wp2_with fail
            exact ⟨⟨k + 1, by omega, by go_num, HB8.out⟩, by simp [intOf]; omega⟩
      · have hk2 : k = 30 := by omega
        subst hk2
        have hxd := HE8.out.1.of_cells (w' := wr) (fun o => hb.cell (p := ⟨X4, o, none⟩) HE8.out.2)
        have hnd := HN8.out.1.of_cells (w' := wr) (fun o => hb.cell (p := ⟨N8, o, none⟩) HN8.out.2)
        obtain ⟨t0, t1, t2, t3, t4⟩ := hxd
        obtain ⟨u0, u1, u2', u3', u4'⟩ := hnd
        simp only [Nat.zero_add] at t0 t1 t2 t3 t4 u0 u1 u2' u3' u4'
        have HB8 := Lib.hid (HBW.out.trans (hb.mono HBW.out.size))
        clear hb
        go_wp2_with fail
        refine (wake_any _).mono ?_
        rintro e wz ⟨rfl, hbz⟩
        have HF := Lib.hid (HB8.out.trans (hbz.mono HB8.out.size))
        clear hbz
        go_wp2_with fail
        go_ret
        exact ⟨rfl, HF.out⟩)
end Go.Proofs.Ytpjcaanlagibpaa

import Derived.Test.YtpjcaanlagibpaaUpto
import Derived.Test.YtpjcaanlagibpaaBack
import Derived.RangeFuncNested
import Derived.RangeFuncBound
import Derived.RangeFuncCalls
import Derived.RangeFuncLeaves
import Derived.Shelf.RegionOpen
namespace Go.Proofs.Ytpjcaanlagibpaa
open Go.RowKit Go.Shelf
set_option linter.unusedSimpArgs false
set_option linter.unusedVariables false

attribute [local go_sem] Oper.semAt_some

theorem come_map (ds : List Dec) (k : Nat) (hk : k ≤ ds.length) : (come ds k).map Prod.snd = ds.reverse.take k := by
  apply List.ext_getElem
  · simp [come]; omega
  · intro i h1 h2
    have hi : i < k := by simpa [come] using h1
    have hp : ds.length - 1 - i < ds.length := by omega
    simp [come, List.getElem_reverse, List.getElem?_eq_getElem hp]

/-- slices.Backward(s) gives a value that stops -/
theorem back_stops (F : Fence) (n : Nat) (h72 : F.fn 72) (hro : F.round = none) (hn : 1 ≤ n) (Bs : Nat) (sv : Value) (ds : List Dec) (hlen : ds.length ≤ 1000) (w : World) (hBs : Bs < w.heap.size)
    (hc : w.cell? ⟨Bs, 0, none⟩ = some sv) (hI : SliceDecs w sv ds) :
    SeqStopsK F n Try.prog 72 #[.pointer (some ⟨Bs, 0, none⟩)] (fun x : Nat × Dec => #[Value.int .i64 (x.1 : Int), .agg #[.int .i64 x.2.day, .int .i64 x.2.known, .int .i64 x.2.kind, .int .i64 x.2.subject, .int .i64 x.2.value]]) (Below w.heap.size) (fun ys => ys = come ds ds.length)
      (fun pre => ∃ k, k ≤ ds.length ∧ pre = come ds k) ds.length w := fun l J Jx W hW _ _ hY h0 => by
  have hc' := (hW.cell (p := ⟨Bs, 0, none⟩) hBs).trans hc
  rcases hI with ⟨rfl, rfl⟩ | ⟨b, cap, rfl, hb, hcap, hcs⟩
  · exact (back1_nil_in F n h72 hro l Bs J W _ _ hc' h0).mono fun e W' ⟨he, hj⟩ => ⟨he, .inl ⟨_, rfl, hj⟩⟩
  · refine (back1_in F n h72 hro hn l Bs w.heap.size b cap ds hlen hb hBs J Jx hY W hc' (hcs.below hb hW) h0).mono ?_
    rintro e W' ⟨he, hj | ⟨k, hk, hj⟩⟩
    · exact ⟨he, .inl ⟨_, rfl, hj⟩⟩
    · exact ⟨he, .inr ⟨_, ⟨k, hk, rfl⟩, hj⟩⟩

def set6 (W : World) (B : Nat) (d : Dec) (c : Value) : World :=
  ((((((W.setCell ⟨B, 0, none⟩ (.int .i64 d.day)).setCell ⟨B, 1, none⟩ (.int .i64 d.known)).setCell ⟨B, 2, none⟩ (.int .i64 d.kind)).setCell ⟨B, 3, none⟩ (.int .i64 d.subject)).setCell ⟨B, 4, none⟩ (.int .i64 d.value)).setCell ⟨B + 1, 0, none⟩ c)

theorem set6_keeps (W : World) (B : Nat) (d : Dec) (c : Value) : KeepsOthers W (set6 W B d c) :=
  (((((KeepsOthers.setCell _ _ _).trans (KeepsOthers.setCell _ _ _)).trans (KeepsOthers.setCell _ _ _)).trans (KeepsOthers.setCell _ _ _)).trans (KeepsOthers.setCell _ _ _)).trans (KeepsOthers.setCell _ _ _)

theorem set6_below {n : Nat} {A W : World} {B : Nat} (d : Dec) (c : Value) (h : Below n A W) (hn : n ≤ B) : Below n A (set6 W B d c) :=
  (((((h.setCell (p := ⟨B, 0, none⟩) hn _).setCell (p := ⟨B, 1, none⟩) hn _).setCell (p := ⟨B, 2, none⟩) hn _).setCell (p := ⟨B, 3, none⟩) hn _).setCell (p := ⟨B, 4, none⟩) hn _).setCell (p := ⟨B + 1, 0, none⟩) (by show n ≤ B + 1; omega) _

theorem set6_at {W : World} {B : Nat} {d0 : Dec} {c0 : Value} (d : Dec) (c : Value) (h : DecAt W B 0 d0) (hc : W.cell? ⟨B + 1, 0, none⟩ = some c0) : DecAt (set6 W B d c) B 0 d ∧ (set6 W B d c).cell? ⟨B + 1, 0, none⟩ = some c := by
  obtain ⟨x0, x1, x2, x3, x4⟩ := h
  simp only [Nat.zero_add] at x0 x1 x2 x3 x4
  have ne : ∀ i j, i ≠ j → (⟨B, i, none⟩ : Addr) ≠ ⟨B, j, none⟩ := fun i j h e => h (by injection e)
  have nb : ∀ i, (⟨B, i, none⟩ : Addr) ≠ ⟨B + 1, 0, none⟩ := fun i e => by injection e; omega
  refine ⟨⟨?_, ?_, ?_, ?_, ?_⟩, ?_⟩ <;> (try simp only [Nat.zero_add]) <;> unfold set6
  · rw [World.cell?_setCell_other (h := (nb 0).symm), World.cell?_setCell_other (h := ne _ _ (by decide)), World.cell?_setCell_other (h := ne _ _ (by decide)), World.cell?_setCell_other (h := ne _ _ (by decide)), World.cell?_setCell_other (h := ne _ _ (by decide))]
    exact World.cell?_setCell_same _ _ _ x0
  · rw [World.cell?_setCell_other (h := (nb 1).symm), World.cell?_setCell_other (h := ne _ _ (by decide)), World.cell?_setCell_other (h := ne _ _ (by decide)), World.cell?_setCell_other (h := ne _ _ (by decide))]
    refine World.cell?_setCell_same (u := .int .i64 d0.known) _ _ _ ?_
    rw [World.cell?_setCell_other (h := ne _ _ (by decide))]
    exact x1
  · rw [World.cell?_setCell_other (h := (nb 2).symm), World.cell?_setCell_other (h := ne _ _ (by decide)), World.cell?_setCell_other (h := ne _ _ (by decide))]
    refine World.cell?_setCell_same (u := .int .i64 d0.kind) _ _ _ ?_
    rw [World.cell?_setCell_other (h := ne _ _ (by decide)), World.cell?_setCell_other (h := ne _ _ (by decide))]
    exact x2
  · rw [World.cell?_setCell_other (h := (nb 3).symm), World.cell?_setCell_other (h := ne _ _ (by decide))]
    refine World.cell?_setCell_same (u := .int .i64 d0.subject) _ _ _ ?_
    rw [World.cell?_setCell_other (h := ne _ _ (by decide)), World.cell?_setCell_other (h := ne _ _ (by decide)), World.cell?_setCell_other (h := ne _ _ (by decide))]
    exact x3
  · rw [World.cell?_setCell_other (h := (nb 4).symm)]
    refine World.cell?_setCell_same (u := .int .i64 d0.value) _ _ _ ?_
    rw [World.cell?_setCell_other (h := ne _ _ (by decide)), World.cell?_setCell_other (h := ne _ _ (by decide)), World.cell?_setCell_other (h := ne _ _ (by decide)), World.cell?_setCell_other (h := ne _ _ (by decide))]
    exact x4
  · refine World.cell?_setCell_same (u := c0) _ _ _ ?_
    rw [World.cell?_setCell_other (h := nb _), World.cell?_setCell_other (h := nb _), World.cell?_setCell_other (h := nb _), World.cell?_setCell_other (h := nb _), World.cell?_setCell_other (h := nb _)]
    exact hc

theorem latest_stop {ds : List Dec} {k s : Int} {q : Nat} {ini : List (Nat × Dec)} {i : Nat} {d : Dec} (hq : q ≤ ds.length) (e : come ds q = ini ++ [(i, d)]) (h1 : ∀ (a : Nat) (b : Dec), (a, b) ∈ ini → hits k s b = false) (h2 : hits k s d = true) : latestOf ds k s = some d := by
  have hm := come_map ds q hq
  rw [e] at hm
  simp only [List.map_append, List.map_cons, List.map_nil] at hm
  have hr : ds.reverse = (ini.map Prod.snd ++ [d]) ++ ds.reverse.drop q := by rw [hm, List.take_append_drop]
  unfold latestOf
  rw [hr, List.append_assoc, List.find?_append]
  have hn : (ini.map Prod.snd).find? (hits k s) = none := by
    rw [List.find?_eq_none]
    intro x hx
    obtain ⟨⟨a, b⟩, hab, rfl⟩ := List.mem_map.1 hx
    simp [h1 a b hab]
  simp [hn, h2]

theorem latest_done {ds : List Dec} {k s : Int} (h1 : ∀ (a : Nat) (b : Dec), (a, b) ∈ come ds ds.length → hits k s b = false) : latestOf ds k s = none := by
  unfold latestOf
  rw [List.find?_eq_none]
  intro x hx
  have hm := come_map ds ds.length (Nat.le_refl _)
  rw [List.take_of_length_le (by simp)] at hm
  rw [← hm] at hx
  obtain ⟨⟨a, b⟩, hab, rfl⟩ := List.mem_map.1 hx
  simp [h1 a b hab]

def LatOut (o : Option Dec) (w : World) (e : Ending) (w' : World) : Prop :=
  e = .returned (.tuple #[(o.map Dec.val).getD zeroDec, .bool o.isSome]) ∧ Below w.heap.size w w'

set_option maxRecDepth 100000 in
set_option maxHeartbeats 4000000 in
theorem latest_any (v : Value) (ds : List Dec) (k s day : Int) (w : World) (h : SliceDecs w v ds) (hok : OKs ds) (hl : ds.length ≤ 1000) :
    Calls Try.prog 28 #[.agg #[v], .int .i64 k, .int .i64 s, .int .i64 day] w fun e w' => LatOut (latestOf (upTo ds day) k s) w e w' := by
  refine (callsIn_wide (n := 8)).1 ?_
  have hun := fun w1 (h1 : SliceDecs w1 v ds) => until_any v ds day w1 h1 hok hl
  have hn8 : 1 ≤ 8 := by omega
  refine callsIn_of_wp_marks Try.func28 rfl trivial ?_ rfl
  simp only [Try.ntmps28, List.size_toArray, List.length_cons, List.length_nil, Nat.reduceAdd, Nat.reduceSub, Array.replicate_succ, Array.replicate_zero, List.push_toArray, List.append_toArray, List.nil_append, List.cons_append]
  have HUN := Lib.hid hun
  clear hun
  have hb5 : Below w.heap.size w (((((w.alloc (.cells #[v] 25)).alloc (.cells #[.int .i64 k] 3)).alloc (.cells #[.int .i64 s] 3)).alloc (.cells #[.int .i64 0, .int .i64 0, .int .i64 0, .int .i64 0, .int .i64 0] 27)).alloc (.cells #[.bool false] 4)) := (((((Below.refl _ _).alloc (Nat.le_refl _) _).alloc (by simp) _).alloc (by simp; omega) _).alloc (by simp; omega) _).alloc (by simp; omega) _
  have hz5 : (((((w.alloc (.cells #[v] 25)).alloc (.cells #[.int .i64 k] 3)).alloc (.cells #[.int .i64 s] 3)).alloc (.cells #[.int .i64 0, .int .i64 0, .int .i64 0, .int .i64 0, .int .i64 0] 27)).alloc (.cells #[.bool false] 4)).heap.size = w.heap.size + 5 := by simp
  have ck5 : World.cell? (((((w.alloc (.cells #[v] 25)).alloc (.cells #[.int .i64 k] 3)).alloc (.cells #[.int .i64 s] 3)).alloc (.cells #[.int .i64 0, .int .i64 0, .int .i64 0, .int .i64 0, .int .i64 0] 27)).alloc (.cells #[.bool false] 4)) ⟨w.heap.size + 1, 0, none⟩ = some (.int .i64 k) := by
    rw [World.cell?_alloc_past _ _ _ (by simp), World.cell?_alloc_past _ _ _ (by simp), World.cell?_alloc_past _ _ _ (by simp)]; exact World.cell?_alloc_at _ _ _ _ (by simp)
  have cs5 : World.cell? (((((w.alloc (.cells #[v] 25)).alloc (.cells #[.int .i64 k] 3)).alloc (.cells #[.int .i64 s] 3)).alloc (.cells #[.int .i64 0, .int .i64 0, .int .i64 0, .int .i64 0, .int .i64 0] 27)).alloc (.cells #[.bool false] 4)) ⟨w.heap.size + 2, 0, none⟩ = some (.int .i64 s) := by
    rw [World.cell?_alloc_past _ _ _ (by simp), World.cell?_alloc_past _ _ _ (by simp)]; exact World.cell?_alloc_at _ _ _ _ (by simp)
  have cd5 : DecAt (((((w.alloc (.cells #[v] 25)).alloc (.cells #[.int .i64 k] 3)).alloc (.cells #[.int .i64 s] 3)).alloc (.cells #[.int .i64 0, .int .i64 0, .int .i64 0, .int .i64 0, .int .i64 0] 27)).alloc (.cells #[.bool false] 4)) (w.heap.size + 3) 0 ⟨0, 0, 0, 0, 0⟩ := by
    unfold DecAt
    simp only [World.cell?_alloc_past (o := (.cells #[.bool false] 4)) (hn := show w.heap.size + 3 < ((((w.alloc (.cells #[v] 25)).alloc (.cells #[.int .i64 k] 3)).alloc (.cells #[.int .i64 s] 3)).alloc (.cells #[.int .i64 0, .int .i64 0, .int .i64 0, .int .i64 0, .int .i64 0] 27)).heap.size by simp)]
    exact ⟨World.cell?_alloc_at _ _ _ _ (by simp), World.cell?_alloc_at _ _ _ _ (by simp), World.cell?_alloc_at _ _ _ _ (by simp), World.cell?_alloc_at _ _ _ _ (by simp), World.cell?_alloc_at _ _ _ _ (by simp)⟩
  have cb5 : World.cell? (((((w.alloc (.cells #[v] 25)).alloc (.cells #[.int .i64 k] 3)).alloc (.cells #[.int .i64 s] 3)).alloc (.cells #[.int .i64 0, .int .i64 0, .int .i64 0, .int .i64 0, .int .i64 0] 27)).alloc (.cells #[.bool false] 4)) ⟨w.heap.size + 4, 0, none⟩ = some (.bool false) := World.cell?_alloc_at _ _ _ _ (by simp)
  have fz5 : ∀ b o, w.heap.size ≤ b → World.frozen? (((((w.alloc (.cells #[v] 25)).alloc (.cells #[.int .i64 k] 3)).alloc (.cells #[.int .i64 s] 3)).alloc (.cells #[.int .i64 0, .int .i64 0, .int .i64 0, .int .i64 0, .int .i64 0] 27)).alloc (.cells #[.bool false] 4)) ⟨b, o, none⟩ = false := by
    intro b o hb
    rw [frozen?_alloc_cells, frozen?_alloc_cells, frozen?_alloc_cells, frozen?_alloc_cells, frozen?_alloc_cells]; exact frozen_beyond _ _ _ hb
  have hs5 := h.below hb5
  gi_wp2
  refine ⟨trivial, ?_⟩
  generalize (((((w.alloc (.cells #[v] 25)).alloc (.cells #[.int .i64 k] 3)).alloc (.cells #[.int .i64 s] 3)).alloc (.cells #[.int .i64 0, .int .i64 0, .int .i64 0, .int .i64 0, .int .i64 0] 27)).alloc (.cells #[.bool false] 4)) = W5 at *
  refine (callsIn_wide.2 (HUN.out W5 hs5)).mono ?_
  rintro e w2 ⟨u, rfl, hsu, hb2⟩
  obtain ⟨a2, n2, c2, rfl⟩ : ∃ a n c, u = .slice a n c := by
    rcases hsu with ⟨rfl, _⟩ | ⟨g, cap, rfl, _⟩
    · exact ⟨_, _, _, rfl⟩
    · exact ⟨_, _, _, rfl⟩
  have HBA := Lib.hid (hb5.trans (hb2.mono hb5.size))
  have hz2 : w.heap.size + 5 ≤ w2.heap.size := by have := hb2.size; omega
  have CK := Lib.hid ((hb2.cell (p := ⟨w.heap.size + 1, 0, none⟩) (by show w.heap.size + 1 < _; omega)).trans ck5)
  have CS := Lib.hid ((hb2.cell (p := ⟨w.heap.size + 2, 0, none⟩) (by show w.heap.size + 2 < _; omega)).trans cs5)
  have CB := Lib.hid ((hb2.cell (p := ⟨w.heap.size + 4, 0, none⟩) (by show w.heap.size + 4 < _; omega)).trans cb5)
  have CD := Lib.hid (cd5.of_cells (w' := w2) (fun o => hb2.cell (p := ⟨w.heap.size + 3, o, none⟩) (by show w.heap.size + 3 < _; omega)))
  have FZ := Lib.hid (fun b o (h1 : w.heap.size ≤ b) (h2 : b < w.heap.size + 5) => (hb2.frozen (p := ⟨b, o, none⟩) (by show b < _; omega)).trans (fz5 b o h1))
  have HZ := Lib.hid hz2
  have HSU := Lib.hid hsu
  clear h hb5 hz5 ck5 cs5 cd5 cb5 fz5 hs5 hb2 hz2 HUN hsu
  gi_wp2_with (refine ⟨trivial, ?_⟩; gi_at_call 62; refine (back_in Fence.wide 7 trivial rfl _ _ _ _).mono ?_; rintro e w' ⟨rfl, rfl⟩)
  obtain ⟨W0, hW0⟩ : ∃ W0, w2.alloc (.cells #[.slice a2 n2 c2] 23) = W0 := ⟨_, rfl⟩
  have hb0 : Below w2.heap.size w2 W0 := by rw [← hW0]; exact (Below.refl _ _).alloc (Nat.le_refl _) _
  have hz0 : W0.heap.size = w2.heap.size + 1 := by rw [← hW0]; simp
  have hbc : W0.cell? ⟨w2.heap.size, 0, none⟩ = some (.slice a2 n2 c2) := by rw [← hW0]; exact World.cell?_alloc_at _ _ _ _ (by simp)
  rw [hW0]
  clear hW0
  have hz2 := HZ.out
  have HK0 := Lib.hid ((hb0.cell (p := ⟨w.heap.size + 1, 0, none⟩) (by show w.heap.size + 1 < _; omega)).trans CK.out)
  have HS0 := Lib.hid ((hb0.cell (p := ⟨w.heap.size + 2, 0, none⟩) (by show w.heap.size + 2 < _; omega)).trans CS.out)
  have HB0 := Lib.hid ((hb0.cell (p := ⟨w.heap.size + 4, 0, none⟩) (by show w.heap.size + 4 < _; omega)).trans CB.out)
  have HD0 := Lib.hid (CD.out.of_cells (w' := W0) (fun o => hb0.cell (p := ⟨w.heap.size + 3, o, none⟩) (by show w.heap.size + 3 < _; omega)))
  have HF0 := Lib.hid (fun b o (h1 : w.heap.size ≤ b) (h2 : b < w.heap.size + 5) => (hb0.frozen (p := ⟨b, o, none⟩) (by show b < _; omega)).trans (FZ.out b o h1 h2))
  have HBW := Lib.hid (HBA.out.trans (hb0.mono HBA.out.size))
  have hs0 := HSU.out.below hb0
  have hle : (upTo ds day).length ≤ 1000 := Nat.le_trans (upTo_length _ _) hl
  have hst := back_stops Fence.wide (8 - 1) trivial rfl (by omega) w2.heap.size _ (upTo ds day) hle W0 (by omega) hbc hs0
  have HZ0 := Lib.hid hz0
  clear hb0 hz0 hbc hs0 HBA CK CS CB CD FZ HSU hz2
  refine wpIn_rangeFunc_ownH (w0 := W0) rfl hn8 (gf := 72) (lb := #[.pointer (some ⟨w2.heap.size, 0, none⟩)]) rfl trivial (enters_of Try.func72 (by kernel_rfl) rfl)
    hst belowK_t (belowK_b (Nat.le_refl _)) (Below.refl _ _) (fun _ => rfl)
    (fun pre W => (∀ x ∈ pre, hits k s x.2 = false) ∧ Below W0.heap.size W0 W)
    (fun c pre W => (c = .ret ∧ ∃ ini last, pre = ini ++ [last] ∧ (∀ x ∈ ini, hits k s x.2 = false) ∧ hits k s last.2 = true ∧ DecAt W (w.heap.size + 3) 0 last.2 ∧ W.cell? ⟨w.heap.size + 4, 0, none⟩ = some (.bool true)) ∧ Below w.heap.size w W)
    (OwnFrom.and (ownFrom_pure _ _) (ownFrom_below (Nat.le_refl _) (Nat.le_refl _)))
    (fun c => OwnFrom.and (Own.from (fun q A B row hq hg hr => by obtain ⟨hc, ini, last, e1, e2, e3, ⟨x0, x1, x2, x3, x4⟩, e5⟩ := hq; exact ⟨hc, ini, last, e1, e2, e3, ⟨cell_kept x0 hg hr, cell_kept x1 hg hr, cell_kept x2 hg hr, cell_kept x3 hg hr, cell_kept x4 hg hr⟩, cell_kept e5 hg hr⟩) _) (ownFrom_below (Nat.le_refl _) (by have := HBW.out.size; omega)))
    ⟨by simp, Below.refl _ _⟩
    (fun x a' W => ∃ Bd, W0.heap.size ≤ Bd ∧ DecAt W Bd 0 x.2 ∧ a' = { tmps :=
        #[Value.agg #[v], Value.int IntKind.i64 k, Value.int IntKind.i64 s, Value.int IntKind.i64 day,
          Value.pointer (some { block := w.heap.size, off := 0 }),
          Value.pointer (some { block := w.heap.size + 1, off := 0 }),
          Value.pointer (some { block := w.heap.size + 1 + 1, off := 0 }), undef,
          Value.pointer (some { block := w.heap.size + 1 + 1 + 1, off := 0 }),
          Value.pointer (some { block := w.heap.size + 1 + 1 + 1 + 1, off := 0 }), undef, .pointer (some ⟨Bd, 0, none⟩), Value.agg #[v],
          Value.int IntKind.i64 day, Value.slice a2 n2 c2,
          Value.func (Fn.func 72) #[] #[Value.pointer (some { block := w2.heap.size, off := 0 })], .int .i64 (x.1 : Int), .agg #[.int .i64 x.2.day, .int .i64 x.2.known, .int .i64 x.2.kind, .int .i64 x.2.subject, .int .i64 x.2.value], undef,
          undef, undef, undef, undef, undef, undef, undef, undef, undef, undef, undef], defers := [] })
    (fun x a' => Own.from (fun q A B row hq hg hr => by obtain ⟨Bd, h1, ⟨x0, x1, x2, x3, x4⟩, h3⟩ := hq; exact ⟨Bd, h1, ⟨cell_kept x0 hg hr, cell_kept x1 hg hr, cell_kept x2 hg hr, cell_kept x3 hg hr, cell_kept x4 hg hr⟩, h3⟩) _)
    ?assign ?body ?done ?stop
  case assign =>
    rintro l pre x W K hi hK
    gi_wp2
    refine hK _ _ ((KeepsOthers.alloc _ _).from _) ((Below.refl _ W).alloc hi.2.size _) ⟨hi.1, hi.2.alloc hi.2.size _⟩ ⟨W.heap.size, hi.2.size, ?_, rfl⟩
    exact ⟨World.cell?_alloc_at _ _ _ _ (by simp), World.cell?_alloc_at _ _ _ _ (by simp), World.cell?_alloc_at _ _ _ _ (by simp), World.cell?_alloc_at _ _ _ _ (by simp), World.cell?_alloc_at _ _ _ _ (by simp)⟩
  case body =>
    rintro l pre x a' W hl ⟨r, hr⟩ ⟨hno, hb⟩ ⟨Bd, hBd, hdec, rfl⟩ hlt
    have hz2 := HZ.out
    have hz0 := HZ0.out
    have ck := (hb.cell (p := ⟨w.heap.size + 1, 0, none⟩) (by show w.heap.size + 1 < _; omega)).trans HK0.out
    have cs := (hb.cell (p := ⟨w.heap.size + 2, 0, none⟩) (by show w.heap.size + 2 < _; omega)).trans HS0.out
    have cb := (hb.cell (p := ⟨w.heap.size + 4, 0, none⟩) (by show w.heap.size + 4 < _; omega)).trans HB0.out
    have cd := HD0.out.of_cells (w' := W) (fun o => hb.cell (p := ⟨w.heap.size + 3, o, none⟩) (by show w.heap.size + 3 < _; omega))
    have hf := fun b o h1 h2 => (hb.frozen (p := ⟨b, o, none⟩) (by show b < _; omega)).trans (HF0.out b o h1 h2)
    have hf3 : ∀ o, W.frozen? ⟨w.heap.size + 3, o, none⟩ = false := fun o => hf _ _ (by omega) (by omega)
    have hf4 := hf (w.heap.size + 4) 0 (by omega) (by omega)
    have HB := Lib.hid hb
    have HNO := Lib.hid hno
    have HBd := Lib.hid hBd
    have HDEC := Lib.hid hdec
    have HCD := Lib.hid cd
    obtain ⟨x0, x1, x2, x3, x4⟩ := hdec
    obtain ⟨y0, y1, y2, y3, y4⟩ := cd
    simp only [Nat.zero_add] at x0 x1 x2 x3 x4 y0 y1 y2 y3 y4
    obtain ⟨xi, xd⟩ := x
    dsimp only at x0 x1 x2 x3 x4
    clear hb hno hf hlt hst hle hz2 hz0 hBd hr
    have hz3 := HBW.out.size
    by_cases h1 : xd.kind = k
    · by_cases h2 : xd.subject = s
      · have hh : hits k s xd = true := by simp [hits, h1, h2]
        have HH := Lib.hid hh
        have H1 := Lib.hid h1
        have H2 := Lib.hid h2
        clear hh
        rw [h1] at x2
        rw [h2] at x3
        clear h1 h2
        gi_wp2
        have hx : (⟨xd.day, xd.known, k, s, xd.value⟩ : Dec) = xd := by rw [← H1.out, ← H2.out]
        obtain ⟨s1, s2⟩ := set6_at (B := w.heap.size + 3) ⟨xd.day, xd.known, k, s, xd.value⟩ (.bool true) HCD.out cb
        have hks := set6_keeps W (w.heap.size + 3) ⟨xd.day, xd.known, k, s, xd.value⟩ (.bool true)
        have hbs := set6_below (B := w.heap.size + 3) ⟨xd.day, xd.known, k, s, xd.value⟩ (.bool true) (HBW.out.trans (HB.out.mono hz3)) (by omega)
        exact ⟨hks.from _, ⟨rfl, pre, xi, xd, rfl, fun a b h => HNO.out (a, b) h, HH.out, Eq.subst (motive := fun d => DecAt (set6 W (w.heap.size + 3) ⟨xd.day, xd.known, k, s, xd.value⟩ (.bool true)) (w.heap.size + 3) 0 d) hx s1, s2⟩, hbs⟩
      · have hh : hits k s xd = false := by simp [hits, h2]
        have HH := Lib.hid hh
        clear hh
        rw [h1] at x2
        gi_wp2
        exact ⟨KeepsFrom.refl _ _, Below.refl _ _, fun a b h => (List.mem_append.1 h).elim (fun h => HNO.out (a, b) h) (fun e => by simp at e; rw [e.2]; exact HH.out), HB.out⟩
    · have hh : hits k s xd = false := by simp [hits, h1]
      have HH := Lib.hid hh
      clear hh
      gi_wp2
      exact ⟨KeepsFrom.refl _ _, Below.refl _ _, fun a b h => (List.mem_append.1 h).elim (fun h => HNO.out (a, b) h) (fun e => by simp at e; rw [e.2]; exact HH.out), HB.out⟩
  case done =>
    rintro D ys W hD rfl ⟨hno, hb⟩ hK
    have hz2 := HZ.out
    have hz0 := HZ0.out
    have hz3 := HBW.out.size
    have cb := (hb.cell (p := ⟨w.heap.size + 4, 0, none⟩) (by show w.heap.size + 4 < _; omega)).trans HB0.out
    have cd := HD0.out.of_cells (w' := W) (fun o => hb.cell (p := ⟨w.heap.size + 3, o, none⟩) (by show w.heap.size + 3 < _; omega))
    have hf := fun b o h1 h2 => (hb.frozen (p := ⟨b, o, none⟩) (by show b < _; omega)).trans (HF0.out b o h1 h2)
    have hf3 : ∀ o, W.frozen? ⟨w.heap.size + 3, o, none⟩ = false := fun o => hf _ _ (by omega) (by omega)
    have hf4 := hf (w.heap.size + 4) 0 (by omega) (by omega)
    have HLO : Hid (latestOf (upTo ds day) k s = none) := Lib.hid (latest_done fun a b h => hno (a, b) h)
    have HCD := Lib.hid cd
    have HB := Lib.hid hb
    have HK := Lib.hid hK
    have HDL := Lib.hid hD
    obtain ⟨y0, y1, y2, y3, y4⟩ := cd
    simp only [Nat.zero_add] at y0 y1 y2 y3 y4
    clear hb hno hf hst hle hz2 hz0 hK hD
    gi_wp2
    obtain ⟨s1, s2⟩ := set6_at (B := w.heap.size + 3) ⟨0, 0, 0, 0, 0⟩ (.bool false) HCD.out cb
    have hks := set6_keeps W (w.heap.size + 3) ⟨0, 0, 0, 0, 0⟩ (.bool false)
    have hbs := set6_below (B := w.heap.size + 3) ⟨0, 0, 0, 0, 0⟩ (.bool false) (HBW.out.trans (HB.out.mono hz3)) (by omega)
    have hK6 := hks.same D _ HK.out rfl
    change bodyPostM _ _ _ _ _ _ _ (set6 W (w.heap.size + 3) ⟨0, 0, 0, 0, 0⟩ (.bool false))
    generalize set6 W (w.heap.size + 3) ⟨0, 0, 0, 0, 0⟩ (.bool false) = W6 at *
    refine ⟨by simp, .inl ⟨_, _, rfl, run_takeDeferred hK6, ?_⟩⟩
    have hg6 := grownBy_putObj' W6 D (.deferred none)
    have hr6 : ∀ r, some D = some r → ∃ o : Obj, W6.heap[r]? = some o ∧ o.isCells = false := fun r e => by cases e; exact ⟨_, hK6, rfl⟩
    have hB7 := hbs.trans (belowK_b (w := w) (Nat.le_refl _) W6 D _ (.deferred none) (by have := HDL.out; omega) hK6 rfl rfl)
    obtain ⟨x0, x1, x2, x3, x4⟩ := s1
    have y0 := cell_kept x0 hg6 hr6
    have y1 := cell_kept x1 hg6 hr6
    have y2 := cell_kept x2 hg6 hr6
    have y3 := cell_kept x3 hg6 hr6
    have y4 := cell_kept x4 hg6 hr6
    have y5 := cell_kept s2 hg6 hr6
    simp only [Nat.zero_add] at y0 y1 y2 y3 y4
    refine ⟨.tuple #[zeroDec, .bool false], ?_, ⟨by rw [HLO.out]; rfl, hB7⟩⟩
    simp [results, Try.f28, go_sem, y0, y1, y2, y3, y4, y5, zeroDec]
  case stop =>
    rintro D c pre W hD ⟨q, hq, rfl⟩ ⟨⟨rfl, ini, ⟨li, ld⟩, e1, e2, e3, e4, e5⟩, hB⟩ hK
    have HLO : Hid (latestOf (upTo ds day) k s = some ld) := Lib.hid (latest_stop hq e1 (fun a b h => e2 (a, b) h) e3)
    clear e1 e2 e3 hst hle
    gi_wp2
    refine ⟨by simp, .inl ⟨_, _, rfl, run_takeDeferred hK, ?_⟩⟩
    have hg6 := grownBy_putObj' W D (.deferred none)
    have hr6 : ∀ r, some D = some r → ∃ o : Obj, W.heap[r]? = some o ∧ o.isCells = false := fun r e => by cases e; exact ⟨_, hK, rfl⟩
    have hB7 := hB.trans (belowK_b (w := w) (Nat.le_refl _) W D _ (.deferred none) (by have := HBW.out.size; omega) hK rfl rfl)
    obtain ⟨x0, x1, x2, x3, x4⟩ := e4
    have y0 := cell_kept x0 hg6 hr6
    have y1 := cell_kept x1 hg6 hr6
    have y2 := cell_kept x2 hg6 hr6
    have y3 := cell_kept x3 hg6 hr6
    have y4 := cell_kept x4 hg6 hr6
    have y5 := cell_kept e5 hg6 hr6
    simp only [Nat.zero_add] at y0 y1 y2 y3 y4
    refine ⟨.tuple #[ld.val, .bool true], ?_, ⟨by rw [HLO.out]; rfl, hB7⟩⟩
    simp [results, Try.f28, go_sem, y0, y1, y2, y3, y4, y5, Dec.val]
end Go.Proofs.Ytpjcaanlagibpaa

import Derived.Test.YtpbahffkhpfakaaWWin
import Derived.Test.YtpbahffkhpfakaaInB
namespace Go.Proofs.Ytpbahffkhpfakaa
open Go.RowKit
set_option linter.unusedSimpArgs false
set_option linter.unusedVariables false

/-! ## each, at numbers and at windows -/

theorem all_not_any {α : Type} (p : α → Bool) (l : List α) : l.all p = !(l.any fun x => !p x) := by
  induction l with
  | nil => rfl
  | cons a l ih => simp only [List.all_cons, List.any_cons, ih]; cases p a <;> simp

theorem eachc_int (B : Nat) (g : Nat) (lb : Array Value) (eg : EnterOk g) (p : Int → Bool) (l : List Int) (w : World) (hB : B < w.heap.size) (hcell : w.cell? ⟨B, 0, none⟩ = some (.func (.func g) #[] lb)) (hp : PredOn g lb (Value.int .i64) p l w) :
    PredOn 59 #[.pointer (some ⟨B, 0, none⟩)] (Value.int .i64) (fun x => !p x) l w := fun W x hx hb => by
  have hc : W.cell? ⟨B, 0, none⟩ = some (.func (.func g) #[] lb) := (hb.cell (p := ⟨B, 0, none⟩) hB).trans hcell
  have hcall := hp W x hx hb
  have eg' : ∀ args w, (callFunc g args).run Try.prog w = .ok (.enter g args) w := eg
  clear hcell hp hb hx
  show Calls Try.prog 59 #[.int .i64 x, .pointer (some ⟨B, 0, none⟩)] W fun e w' => e = .returned (.bool (!p x)) ∧ Below W.heap.size W w'
  generalize p x = q at hcall ⊢
  go_enter Try.func59, Try.ntmps59
  go_wp2_with (go_at_fn g; refine hcall.mono ?_; rintro e w' ⟨rfl, hb'⟩)
  go_ret
  exact ⟨rfl, hb'⟩

theorem eachc_win (B : Nat) (g : Nat) (lb : Array Value) (eg : EnterOk g) (p : Win → Bool) (l : List Win) (w : World) (hB : B < w.heap.size) (hcell : w.cell? ⟨B, 0, none⟩ = some (.func (.func g) #[] lb)) (hp : PredOn g lb Win.val p l w) :
    PredOn 61 #[.pointer (some ⟨B, 0, none⟩)] Win.val (fun x => !p x) l w := fun W x hx hb => by
  have hc : W.cell? ⟨B, 0, none⟩ = some (.func (.func g) #[] lb) := (hb.cell (p := ⟨B, 0, none⟩) hB).trans hcell
  have hBW : B < W.heap.size := Nat.lt_of_lt_of_le hB hb.size
  have hne : B ≠ W.heap.size := by omega
  have hb2 : Below W.heap.size W (W.alloc (.cells #[.int .i64 x.frm, .int .i64 x.til, x.tv] 58)) := (Below.refl _ _).alloc (Nat.le_refl _) _
  have hcall := hp (W.alloc (.cells #[.int .i64 x.frm, .int .i64 x.til, x.tv] 58)) x hx (hb.trans (hb2.mono hb.size))
  have HB := Lib.hid hb2
  have hcall2 : Calls Try.prog g (#[.agg #[.int .i64 x.frm, .int .i64 x.til, x.tv]] ++ lb) (W.alloc (.cells #[.int .i64 x.frm, .int .i64 x.til, x.tv] 58)) fun e w' => e = .returned (.bool (p x)) ∧ Below (W.alloc (.cells #[.int .i64 x.frm, .int .i64 x.til, x.tv] 58)).heap.size (W.alloc (.cells #[.int .i64 x.frm, .int .i64 x.til, x.tv] 58)) w' := hcall
  have eg' : ∀ args w, (callFunc g args).run Try.prog w = .ok (.enter g args) w := eg
  clear hcell hp hb hx hcall hb2
  show Calls Try.prog 61 #[.agg #[.int .i64 x.frm, .int .i64 x.til, x.tv], .pointer (some ⟨B, 0, none⟩)] W fun e w' => e = .returned (.bool (!p x)) ∧ Below W.heap.size W w'
  generalize p x = q at hcall2 ⊢
  go_enter Try.func61, Try.ntmps61
  go_wp2_with (go_at_fn g; refine hcall2.mono ?_; rintro e w' ⟨rfl, hb'⟩)
  go_ret
  exact ⟨rfl, HB.out.trans (hb'.mono HB.out.size)⟩

theorem each_int (p : Int → Bool) (g : Nat) (lb : Array Value) (eg : EnterOk g) (v : Value) (l : List Int) (w : World) (hv : IntsAt w v l) (hp : PredOn g lb (Value.int .i64) p l w) :
    Calls Try.prog 35 #[v, .func (.func g) #[] lb] w fun e w' => e = .returned (.bool (l.all p)) ∧ Below w.heap.size w w' := by
  have hb1 : Below w.heap.size w (w.alloc (.cells #[.func (.func g) #[] lb] 64)) := (Below.refl _ _).alloc (Nat.le_refl _) _
  have h := cf_int (fun x => !p x) 59 #[.pointer (some ⟨w.heap.size, 0, none⟩)] (enters_of Try.func59 (by kernel_rfl) rfl) v l _ (hv.below hb1) (eachc_int w.heap.size g lb eg p l _ (by simp) (by simp) (hp.later hb1))
  have H := Lib.hid h
  have HB := Lib.hid hb1
  have hmf : ∀ (fn : Fn) (first cap : Array Value) (w : World), (Instr.makeFunc fn first cap).run Try.prog w = .ok (.func fn first cap) w := fun _ _ _ _ => rfl
  rw [all_not_any p l]
  obtain ⟨a, cap, rfl⟩ := hv.form
  clear hv hp h hb1
  generalize (l.any fun x => !p x) = q at *
  generalize l.length = n at H ⊢
  go_enter Try.func35, Try.ntmps35
  go_wp2_with (go_at_call 58; refine H.out.mono ?_; rintro e w' ⟨rfl, hb'⟩)
  go_ret
  exact ⟨rfl, HB.out.trans (hb'.mono HB.out.size)⟩

theorem each_win (p : Win → Bool) (g : Nat) (lb : Array Value) (eg : EnterOk g) (v : Value) (l : List Win) (w : World) (hv : WinsAt w v l) (hp : PredOn g lb Win.val p l w) :
    Calls Try.prog 37 #[v, .func (.func g) #[] lb] w fun e w' => e = .returned (.bool (l.all p)) ∧ Below w.heap.size w w' := by
  have hb1 : Below w.heap.size w (w.alloc (.cells #[.func (.func g) #[] lb] 68)) := (Below.refl _ _).alloc (Nat.le_refl _) _
  have h := cf_win (fun x => !p x) 61 #[.pointer (some ⟨w.heap.size, 0, none⟩)] (enters_of Try.func61 (by kernel_rfl) rfl) v l _ (hv.below hb1) (eachc_win w.heap.size g lb eg p l _ (by simp) (by simp) (hp.later hb1))
  have H := Lib.hid h
  have HB := Lib.hid hb1
  have hmf : ∀ (fn : Fn) (first cap : Array Value) (w : World), (Instr.makeFunc fn first cap).run Try.prog w = .ok (.func fn first cap) w := fun _ _ _ _ => rfl
  rw [all_not_any p l]
  obtain ⟨a, cap, rfl⟩ := hv.form
  clear hv hp h hb1
  generalize (l.any fun x => !p x) = q at *
  generalize l.length = n at H ⊢
  go_enter Try.func37, Try.ntmps37
  go_wp2_with (go_at_call 60; refine H.out.mono ?_; rintro e w' ⟨rfl, hb'⟩)
  go_ret
  exact ⟨rfl, HB.out.trans (hb'.mono HB.out.size)⟩
end Go.Proofs.Ytpbahffkhpfakaa

import Derived.Test.YtpbahffkhpfakaaWAl0Z
import Derived.Test.YtpbahffkhpfakaaWOddZ
import Derived.Test.YtpbahffkhpfakaaRow
import Derived.Deep.CutBlock
namespace Go.Proofs.Ytpbahffkhpfakaa
open Go.RowKit
set_option linter.unusedSimpArgs false
set_option linter.unusedVariables false

/-! ## The law of all that a calendar answers: the way in -/

theorem RowAt.up {w w' : World} {p q : Nat} {a : Option Addr} {len : Nat} (h : RowAt w p a len) (hb : Below p w w') (hpq : p ≤ q) : RowAt w' q a len := by
  rcases h.below hb with h | ⟨b, off, e, hb, hc⟩
  · exact .inl h
  · exact .inr ⟨b, off, e, by omega, hc⟩

theorem pair_more {p : Nat} {w4 wr : World} {a b : Value} {la lb : List Int} (ty : TypeId) (hd : Dg p w4 wr) (hp : p < w4.heap.size) (o1 : OwnInts wr w4.heap.size a la) (o2 : OwnInts wr w4.heap.size b lb) (ap : Apart a b) (x : Int) (hl : la.length ≤ 900) :
    ∃ a' w', (Builtin.append_ #[22, 22] ty #[a, .slice (some ⟨wr.heap.size, 0, none⟩) 1 1]).run Try.prog (wr.alloc (.cells #[.int .i64 x] 3)) = .ok a' w' ∧ (Dg p w4 w' ∧ OwnInts w' w4.heap.size a' (la ++ [x]) ∧ OwnInts w' w4.heap.size b lb ∧ Apart a' b) := by
  obtain ⟨a', w', h1, h2⟩ := (reg_of hd.size o1 o2 ap).more ty x _ rfl hl
  have h3 := reg_dg hd hp h2
  exact ⟨a', w', h1, h3.1, h3.2.1, h3.2.2.1, h3.2.2.2⟩
/-- a calendar's variable: its three slices -/
def VarAt (W : World) (B : Nat) (x y z : Value) : Prop := W.cell? ⟨B, 0, none⟩ = some x ∧ W.cell? ⟨B, 1, none⟩ = some y ∧ W.cell? ⟨B, 2, none⟩ = some z

/-- one of the calendars in the literal -/
def El (W : World) (L k : Nat) : Prop := ∃ (c : Cal) (xa : Option Addr) (xn xc : Nat) (ya : Option Addr) (yn yc : Nat) (za : Option Addr) (zn zc : Nat), c.val = .agg #[.slice xa xn xc, .slice ya yn yc, .slice za zn zc] ∧ CalAt W c ∧ L < W.heap.size ∧ W.cell? ⟨L, k, none⟩ = some (.slice xa xn xc) ∧ W.cell? ⟨L, k + 1, none⟩ = some (.slice ya yn yc) ∧ W.cell? ⟨L, k + 2, none⟩ = some (.slice za zn zc)
structure Four4 (W : World) (a b t d : Value) : Prop where
  ab : ListsOk W a b
  td : ListsOk W t d
  nn : ListsOk W (.slice none 0 0) (.slice none 0 0)
  ad : ListsOk W a d
theorem Four4.below {W W' : World} {a b t d : Value} (h : Four4 W a b t d) (hb : Below W.heap.size W W') : Four4 W' a b t d := ⟨h.ab.below hb, h.td.below hb, h.nn.below hb, h.ad.below hb⟩
/-- a literal of three numbers -/
theorem lit3_at (W : World) (x y z : Int) : ∀ V, Below (W.alloc (.cells #[.int .i64 x, .int .i64 y, .int .i64 z] 3)).heap.size (W.alloc (.cells #[.int .i64 x, .int .i64 y, .int .i64 z] 3)) V → ∀ k, k < 3 → ∃ n : Int, V.cell? ⟨W.heap.size, k, none⟩ = some (.int .i64 n) := fun V hV k hk => by
  have hs : W.heap.size < (W.alloc (.cells #[.int .i64 x, .int .i64 y, .int .i64 z] 3)).heap.size := by simp
  match k, hk with
  | 0, _ => exact ⟨x, (hV.cell (p := ⟨W.heap.size, 0, none⟩) hs).trans (World.cell?_alloc_at _ _ _ _ rfl)⟩
  | 1, _ => exact ⟨y, (hV.cell (p := ⟨W.heap.size, 1, none⟩) hs).trans (World.cell?_alloc_at _ _ _ _ rfl)⟩
  | 2, _ => exact ⟨z, (hV.cell (p := ⟨W.heap.size, 2, none⟩) hs).trans (World.cell?_alloc_at _ _ _ _ rfl)⟩
theorem lit2_at (W : World) (x y : Int) : ∀ V, Below (W.alloc (.cells #[.int .i64 x, .int .i64 y] 3)).heap.size (W.alloc (.cells #[.int .i64 x, .int .i64 y] 3)) V → ∀ k, k < 2 → ∃ n : Int, V.cell? ⟨W.heap.size, k, none⟩ = some (.int .i64 n) := fun V hV k hk => by
  have hs : W.heap.size < (W.alloc (.cells #[.int .i64 x, .int .i64 y] 3)).heap.size := by simp
  match k, hk with
  | 0, _ => exact ⟨x, (hV.cell (p := ⟨W.heap.size, 0, none⟩) hs).trans (World.cell?_alloc_at _ _ _ _ rfl)⟩
  | 1, _ => exact ⟨y, (hV.cell (p := ⟨W.heap.size, 1, none⟩) hs).trans (World.cell?_alloc_at _ _ _ _ rfl)⟩
/-- a literal of three pairs of lists -/
theorem lists_at (W Wx : World) {p1 q1 p2 q2 p3 q3 : Option Addr} {n1 m1 n2 m2 n3 m3 k1 l1 k2 l2 k3 l3 : Nat} (h1 : ListsOk Wx (.slice p1 n1 m1) (.slice q1 k1 l1)) (h2 : ListsOk Wx (.slice p2 n2 m2) (.slice q2 k2 l2)) (h3 : ListsOk Wx (.slice p3 n3 m3) (.slice q3 k3 l3)) : ∀ V, Below (W.alloc (.cells #[.slice p1 n1 m1, .slice q1 k1 l1, .slice p2 n2 m2, .slice q2 k2 l2, .slice p3 n3 m3, .slice q3 k3 l3] 42)).heap.size (W.alloc (.cells #[.slice p1 n1 m1, .slice q1 k1 l1, .slice p2 n2 m2, .slice q2 k2 l2, .slice p3 n3 m3, .slice q3 k3 l3] 42)) V → ∀ k, k < 3 → ∃ (pa : Option Addr) (pn pc : Nat) (qa : Option Addr) (qn qc : Nat), V.cell? ⟨W.heap.size, k * 2, none⟩ = some (.slice pa pn pc) ∧ V.cell? ⟨W.heap.size, k * 2 + 1, none⟩ = some (.slice qa qn qc) ∧ ListsOk Wx (.slice pa pn pc) (.slice qa qn qc) := fun V hV k hk => by
  have hs : W.heap.size < (W.alloc (.cells #[.slice p1 n1 m1, .slice q1 k1 l1, .slice p2 n2 m2, .slice q2 k2 l2, .slice p3 n3 m3, .slice q3 k3 l3] 42)).heap.size := by simp
  match k, hk with
  | 0, _ => exact ⟨_, _, _, _, _, _, (hV.cell (p := ⟨W.heap.size, 0, none⟩) hs).trans (World.cell?_alloc_at _ _ _ _ rfl), (hV.cell (p := ⟨W.heap.size, 1, none⟩) hs).trans (World.cell?_alloc_at _ _ _ _ rfl), h1⟩
  | 1, _ => exact ⟨_, _, _, _, _, _, (hV.cell (p := ⟨W.heap.size, 2, none⟩) hs).trans (World.cell?_alloc_at _ _ _ _ rfl), (hV.cell (p := ⟨W.heap.size, 3, none⟩) hs).trans (World.cell?_alloc_at _ _ _ _ rfl), h2⟩
  | 2, _ => exact ⟨_, _, _, _, _, _, (hV.cell (p := ⟨W.heap.size, 4, none⟩) hs).trans (World.cell?_alloc_at _ _ _ _ rfl), (hV.cell (p := ⟨W.heap.size, 5, none⟩) hs).trans (World.cell?_alloc_at _ _ _ _ rfl), h3⟩
/-! ### a block of the law's code -/
def findBlock (n : Nat) : Code → Option Code
  | .block k c => if k = n then some (.block k c) else findBlock n c
  | .seq a b => match findBlock n a with
    | some c => some c
    | none => findBlock n b
  | .loop c => findBlock n c
  | .scope c => findBlock n c
  | .cond _ a b => match findBlock n a with
    | some c => some c
    | none => findBlock n b
  | _ => none
noncomputable def blk2 : Code := ((Try.f3.body.bind (findBlock 2)).getD .skip)
noncomputable def blk4 : Code := ((Try.f3.body.bind (findBlock 4)).getD .skip)
noncomputable def blk6 : Code := ((Try.f3.body.bind (findBlock 6)).getD .skip)
noncomputable def blk8 : Code := ((Try.f3.body.bind (findBlock 8)).getD .skip)
noncomputable def blk10 : Code := ((Try.f3.body.bind (findBlock 10)).getD .skip)
noncomputable def blk12 : Code := ((Try.f3.body.bind (findBlock 12)).getD .skip)
end Go.Proofs.Ytpbahffkhpfakaa

namespace Go.Proofs.Ytpbahffkhpfakaa
open Go.RowKit
set_option linter.unusedSimpArgs false
set_option linter.unusedVariables false

set_option maxRecDepth 1000000 in
set_option maxHeartbeats 16000000 in
theorem all1 {Q : Exit → Act → World → Prop} {Wl Wx : World} {Bx LWl : Nat} {xa : Option Addr} {xn xc : Nat} {ya : Option Addr} {yn yc : Nat} {za : Option Addr} {zn zc : Nat} {c0 c1 c2 c3 c4 c5 c6 c7 c8 c9 c10 c11 c12 c13 c14 c15 c16 c18 c19 c20 c21 c22 c23 c24 c25 c26 c27 c28 c29 c30 c31 c32 c33 c34 c35 c36 c37 c38 c39 c40 c41 c42 c43 c44 c45 c46 c47 c48 c49 c50 c51 c52 c53 c54 c55 c56 c57 c58 c59 c60 c61 c62 c63 c64 c65 c66 c67 c68 c69 c70 c71 c72 c73 c74 c75 c76 c77 c78 c79 c80 c81 c82 c83 c84 c85 c86 c87 c88 c89 c90 c91 c92 c93 c94 c95 c96 c97 c98 c99 c100 c101 c102 c103 c104 c105 c106 c107 c108 c109 c110 c111 c112 c113 c114 c115 c119 c120 c121 c122 c123 c124 c125 c126 c127 c128 c129 c130 c131 c132 c133 c134 c135 c136 c137 c138 c139 c140 c141 c142 c143 c144 c145 c146 c147 c148 c149 c150 c151 c152 c153 c154 c155 c156 c157 c158 c159 c160 c161 c162 c163 c164 c165 c166 c167 c168 c169 c170 c171 c172 c173 c174 c175 c176 c177 c178 c179 c180 c181 c182 c183 c184 c185 c186 c187 c188 c189 c190 c191 c192 c193 c194 c195 c196 c197 c198 c199 c200 c201 c202 c203 c204 c205 c206 c207 c208 c209 c210 c211 c212 c213 c214 c215 c216 c217 c218 c219 c220 c221 c222 c223 c224 c225 c226 c227 c228 c229 c230 c231 c232 c233 c234 c235 c236 c237 c238 c239 c240 c241 c242 c243 c244 c245 c246 c247 c248 c249 c250 c251 c252 c253 c254 c255 c256 c257 c258 c259 c260 c261 c262 c263 c264 c265 c266 c267 c268 c269 c270 c271 c272 c273 c274 c275 c276 c277 c278 c279 c280 c281 c282 c283 c284 c285 c286 c287 c288 c289 c290 c291 c292 c293 c294 c295 c296 c297 c298 c299 c300 c301 c302 c303 c304 c305 c306 c307 c308 c309 c310 c311 c312 c313 c314 c315 c316 c317 c318 c319 c320 c321 c322 c323 c324 c325 c326 c327 c328 c329 c330 c331 c332 c333 c334 c335 c336 c337 c338 c339 : Value}
    (HO : Hid (Both Wx (.agg #[.slice xa xn xc, .slice ya yn yc, .slice za zn zc])))
    (HBX : Hid (∀ W, Below Wx.heap.size Wx W → W.cell? ⟨Bx, 0, none⟩ = some (.slice xa xn xc) ∧ W.cell? ⟨Bx, 1, none⟩ = some (.slice ya yn yc) ∧ W.cell? ⟨Bx, 2, none⟩ = some (.slice za zn zc)))
    (HZX : Hid (Wx.heap.size = Bx + 1))
    (HXWl : Hid (∀ W, Below Wl.heap.size Wl W → Below Wx.heap.size Wx W))
    (ZWl : Hid (∀ V, Below Wl.heap.size Wl V → ∀ k, k < 3 → ∃ n : Int, V.cell? ⟨LWl, k, none⟩ = some (.int .i64 n)))
    (hq : ∀ (u10 u19 u118 u119 u120 u121 u122 u123 u124 u125 u126 u127 u128 u129 : Value) (wx : World), Below Wl.heap.size Wl wx → Q .normal ⟨#[c0, c1, c2, c3, c4, c5, c6, c7, c8, c9, u10, c11, c12, c13, c14, c15, c16, .pointer (some ⟨Bx, 0, none⟩), c18, u19, c20, c21, c22, c23, c24, c25, c26, c27, c28, c29, c30, c31, c32, c33, c34, c35, c36, c37, c38, c39, c40, c41, c42, c43, c44, c45, c46, c47, c48, c49, c50, c51, c52, c53, c54, c55, c56, c57, c58, c59, c60, c61, c62, c63, c64, c65, c66, c67, c68, c69, c70, c71, c72, c73, c74, c75, c76, c77, c78, c79, c80, c81, c82, c83, c84, c85, c86, c87, c88, c89, c90, c91, c92, c93, c94, c95, c96, c97, c98, c99, c100, c101, c102, c103, c104, c105, c106, c107, c108, c109, c110, c111, c112, c113, c114, c115, .slice (some ⟨LWl, 0, none⟩) 3 3, .int .i64 3, u118, u119, u120, u121, u122, u123, u124, u125, u126, u127, u128, u129, c130, c131, c132, c133, c134, c135, c136, c137, c138, c139, c140, c141, c142, c143, c144, c145, c146, c147, c148, c149, c150, c151, c152, c153, c154, c155, c156, c157, c158, c159, c160, c161, c162, c163, c164, c165, c166, c167, c168, c169, c170, c171, c172, c173, c174, c175, c176, c177, c178, c179, c180, c181, c182, c183, c184, c185, c186, c187, c188, c189, c190, c191, c192, c193, c194, c195, c196, c197, c198, c199, c200, c201, c202, c203, c204, c205, c206, c207, c208, c209, c210, c211, c212, c213, c214, c215, c216, c217, c218, c219, c220, c221, c222, c223, c224, c225, c226, c227, c228, c229, c230, c231, c232, c233, c234, c235, c236, c237, c238, c239, c240, c241, c242, c243, c244, c245, c246, c247, c248, c249, c250, c251, c252, c253, c254, c255, c256, c257, c258, c259, c260, c261, c262, c263, c264, c265, c266, c267, c268, c269, c270, c271, c272, c273, c274, c275, c276, c277, c278, c279, c280, c281, c282, c283, c284, c285, c286, c287, c288, c289, c290, c291, c292, c293, c294, c295, c296, c297, c298, c299, c300, c301, c302, c303, c304, c305, c306, c307, c308, c309, c310, c311, c312, c313, c314, c315, c316, c317, c318, c319, c320, c321, c322, c323, c324, c325, c326, c327, c328, c329, c330, c331, c332, c333, c334, c335, c336, c337, c338, c339], []⟩ wx) :
    Code.wp Try.prog blk4 Q ⟨#[c0, c1, c2, c3, c4, c5, c6, c7, c8, c9, c10, c11, c12, c13, c14, c15, c16, .pointer (some ⟨Bx, 0, none⟩), c18, c19, c20, c21, c22, c23, c24, c25, c26, c27, c28, c29, c30, c31, c32, c33, c34, c35, c36, c37, c38, c39, c40, c41, c42, c43, c44, c45, c46, c47, c48, c49, c50, c51, c52, c53, c54, c55, c56, c57, c58, c59, c60, c61, c62, c63, c64, c65, c66, c67, c68, c69, c70, c71, c72, c73, c74, c75, c76, c77, c78, c79, c80, c81, c82, c83, c84, c85, c86, c87, c88, c89, c90, c91, c92, c93, c94, c95, c96, c97, c98, c99, c100, c101, c102, c103, c104, c105, c106, c107, c108, c109, c110, c111, c112, c113, c114, c115, .slice (some ⟨LWl, 0, none⟩) 3 3, .int .i64 3, .int .i64 0, c119, c120, c121, c122, c123, c124, c125, c126, c127, c128, c129, c130, c131, c132, c133, c134, c135, c136, c137, c138, c139, c140, c141, c142, c143, c144, c145, c146, c147, c148, c149, c150, c151, c152, c153, c154, c155, c156, c157, c158, c159, c160, c161, c162, c163, c164, c165, c166, c167, c168, c169, c170, c171, c172, c173, c174, c175, c176, c177, c178, c179, c180, c181, c182, c183, c184, c185, c186, c187, c188, c189, c190, c191, c192, c193, c194, c195, c196, c197, c198, c199, c200, c201, c202, c203, c204, c205, c206, c207, c208, c209, c210, c211, c212, c213, c214, c215, c216, c217, c218, c219, c220, c221, c222, c223, c224, c225, c226, c227, c228, c229, c230, c231, c232, c233, c234, c235, c236, c237, c238, c239, c240, c241, c242, c243, c244, c245, c246, c247, c248, c249, c250, c251, c252, c253, c254, c255, c256, c257, c258, c259, c260, c261, c262, c263, c264, c265, c266, c267, c268, c269, c270, c271, c272, c273, c274, c275, c276, c277, c278, c279, c280, c281, c282, c283, c284, c285, c286, c287, c288, c289, c290, c291, c292, c293, c294, c295, c296, c297, c298, c299, c300, c301, c302, c303, c304, c305, c306, c307, c308, c309, c310, c311, c312, c313, c314, c315, c316, c317, c318, c319, c320, c321, c322, c323, c324, c325, c326, c327, c328, c329, c330, c331, c332, c333, c334, c335, c336, c337, c338, c339], []⟩ Wl := by
  conv => arg 2; whnf
  go_wp2_with fail
  go_loopg [118] 3 (fun gg s118 wr => ∃ k : Nat, k ≤ 3 ∧ 3 - k ≤ gg ∧ s118 = .int .i64 k ∧ Aside (Below Wl.heap.size Wl wr))
  case atStart => exact ⟨0, by omega, by omega, rfl, Below.refl _ _⟩
  case round =>
    obtain ⟨k, hk, hgk, rfl, BK⟩ := hrel
    by_cases hltk : k < 3
    · have hltzk : (k : Int) < 3 := by omega
      have hnek : (0 : Int) ≤ (k : Int) := by omega
      obtain ⟨n, hn⟩ := ZWl.out wr BK.out k hltk
      obtain ⟨kc, hkc⟩ := HO.out.check n
      have HKC := Lib.hid hkc
      have BD := Lib.hid (BK.out.trans ((show Below wr.heap.size wr wr.drew from ⟨rfl, rfl, rfl, Nat.le_refl _, fun _ _ => rfl⟩).mono BK.out.size))
      clear hkc
      go_wp2_with fail
      go_region_held3 (fun W => W.cell? ⟨Bx, 0, none⟩ = some (.slice xa xn xc) ∧ W.cell? ⟨Bx, 1, none⟩ = some (.slice ya yn yc) ∧ W.cell? ⟨Bx, 2, none⟩ = some (.slice za zn zc)) (first | exact HBX.out _ (HXWl.out _ BD.out) | exact HBX.out _ (HXWl.out _ BE.out) | exact HBX.out _ (HXWl.out _ BF.out))
        (first
          | (go_simp; go_at_call 14; refine ((HKC.out _ (HXWl.out _ BD.out)).1).mono ?_; rintro e w9 ⟨rfl, hb⟩; have BE := Lib.hid (BD.out.trans (hb.mono BD.out.size)); clear hb)
          | (go_simp; go_at_call 15; refine ((HKC.out _ (HXWl.out _ BE.out)).2).mono ?_; rintro e w9 ⟨rfl, hb⟩; have BF := Lib.hid (BE.out.trans (hb.mono BE.out.size)); clear hb))
      go_wp2_with fail
      go_roundg (3 - (k + 1))
      case measure => omega
      case rel => exact ⟨k + 1, by omega, by omega, by go_num, BF.out⟩
    · have hltzk : ¬ (k : Int) < 3 := by omega
      clear HBX HO
      go_wp2_with fail
      all_goals exact BK.out
end Go.Proofs.Ytpbahffkhpfakaa

namespace Go.Proofs.Ytpbahffkhpfakaa
open Go.RowKit
set_option linter.unusedSimpArgs false
set_option linter.unusedVariables false

set_option maxRecDepth 1000000 in
set_option maxHeartbeats 16000000 in
theorem all4 {Q : Exit → Act → World → Prop} {Wo Wx : World} {Bx LWo : Nat} {n tm : Int} {xa : Option Addr} {xn xc : Nat} {ya : Option Addr} {yn yc : Nat} {za : Option Addr} {zn zc : Nat} {c0 c1 c2 c3 c4 c5 c6 c7 c8 c9 c10 c11 c12 c13 c14 c15 c16 c18 c19 c20 c22 c23 c24 c25 c26 c27 c28 c30 c31 c32 c33 c34 c35 c36 c37 c38 c39 c40 c41 c42 c43 c44 c45 c46 c47 c48 c49 c50 c51 c52 c53 c54 c55 c56 c57 c58 c59 c60 c61 c62 c63 c64 c65 c66 c67 c68 c69 c70 c71 c72 c73 c74 c75 c76 c77 c78 c79 c80 c81 c82 c83 c84 c85 c86 c87 c88 c89 c90 c91 c92 c93 c94 c95 c96 c97 c98 c99 c100 c101 c102 c103 c104 c105 c106 c107 c108 c109 c110 c111 c112 c113 c114 c115 c116 c117 c118 c119 c120 c121 c122 c123 c124 c125 c126 c127 c128 c129 c130 c131 c132 c133 c134 c135 c136 c137 c138 c139 c140 c141 c142 c143 c144 c145 c146 c147 c148 c149 c150 c151 c152 c153 c154 c155 c156 c157 c158 c159 c160 c161 c162 c163 c164 c165 c166 c167 c168 c169 c170 c171 c172 c173 c174 c175 c176 c177 c178 c179 c180 c181 c182 c183 c184 c185 c186 c187 c188 c189 c190 c191 c192 c193 c194 c195 c196 c197 c198 c199 c200 c201 c202 c203 c204 c205 c206 c207 c208 c209 c210 c211 c212 c213 c214 c215 c216 c217 c218 c219 c220 c221 c222 c223 c224 c225 c226 c227 c228 c229 c230 c231 c232 c233 c237 c238 c239 c240 c241 c242 c243 c244 c245 c246 c247 c248 c249 c250 c251 c252 c253 c254 c255 c256 c257 c258 c259 c260 c261 c262 c263 c264 c265 c266 c267 c268 c269 c270 c271 c272 c273 c274 c275 c276 c277 c278 c279 c280 c281 c282 c283 c284 c285 c286 c287 c288 c289 c290 c291 c292 c293 c294 c295 c296 c297 c298 c299 c300 c301 c302 c303 c304 c305 c306 c307 c308 c309 c310 c311 c312 c313 c314 c315 c316 c317 c318 c319 c320 c321 c322 c323 c324 c325 c326 c327 c328 c329 c330 c331 c332 c333 c334 c335 c336 c337 c338 c339 : Value}
    (HO : Hid (Both Wx (.agg #[.slice xa xn xc, .slice ya yn yc, .slice za zn zc])))
    (HBX : Hid (∀ W, Below Wx.heap.size Wx W → W.cell? ⟨Bx, 0, none⟩ = some (.slice xa xn xc) ∧ W.cell? ⟨Bx, 1, none⟩ = some (.slice ya yn yc) ∧ W.cell? ⟨Bx, 2, none⟩ = some (.slice za zn zc)))
    (HZX : Hid (Wx.heap.size = Bx + 1))
    (HXWo : Hid (∀ W, Below Wo.heap.size Wo W → Below Wx.heap.size Wx W))
    (ZWo : Hid (∀ V, Below Wo.heap.size Wo V → ∀ k, k < 3 → ∃ (pa : Option Addr) (pn pc : Nat) (qa : Option Addr) (qn qc : Nat), V.cell? ⟨LWo, k * 2, none⟩ = some (.slice pa pn pc) ∧ V.cell? ⟨LWo, k * 2 + 1, none⟩ = some (.slice qa qn qc) ∧ ListsOk Wx (.slice pa pn pc) (.slice qa qn qc)))
    (hq : ∀ (u10 u41 u42 u43 u44 u45 u46 u47 u236 u237 u238 u239 u240 u241 u242 u243 u244 u245 u246 u247 u248 u249 u250 u251 u252 u253 u254 u255 u256 u257 u258 u259 u260 u261 u262 u263 u264 u265 u266 u267 u268 u269 u270 u271 u272 u273 u274 u275 u276 u277 : Value) (wx : World), Below Wo.heap.size Wo wx → Q .normal ⟨#[c0, c1, c2, c3, c4, c5, c6, c7, c8, c9, u10, c11, c12, c13, c14, c15, c16, .pointer (some ⟨Bx, 0, none⟩), c18, c19, c20, .int .i64 n, c22, c23, c24, c25, c26, c27, c28, .int .i64 tm, c30, c31, c32, c33, c34, c35, c36, c37, c38, c39, c40, u41, u42, u43, u44, u45, u46, u47, c48, c49, c50, c51, c52, c53, c54, c55, c56, c57, c58, c59, c60, c61, c62, c63, c64, c65, c66, c67, c68, c69, c70, c71, c72, c73, c74, c75, c76, c77, c78, c79, c80, c81, c82, c83, c84, c85, c86, c87, c88, c89, c90, c91, c92, c93, c94, c95, c96, c97, c98, c99, c100, c101, c102, c103, c104, c105, c106, c107, c108, c109, c110, c111, c112, c113, c114, c115, c116, c117, c118, c119, c120, c121, c122, c123, c124, c125, c126, c127, c128, c129, c130, c131, c132, c133, c134, c135, c136, c137, c138, c139, c140, c141, c142, c143, c144, c145, c146, c147, c148, c149, c150, c151, c152, c153, c154, c155, c156, c157, c158, c159, c160, c161, c162, c163, c164, c165, c166, c167, c168, c169, c170, c171, c172, c173, c174, c175, c176, c177, c178, c179, c180, c181, c182, c183, c184, c185, c186, c187, c188, c189, c190, c191, c192, c193, c194, c195, c196, c197, c198, c199, c200, c201, c202, c203, c204, c205, c206, c207, c208, c209, c210, c211, c212, c213, c214, c215, c216, c217, c218, c219, c220, c221, c222, c223, c224, c225, c226, c227, c228, c229, c230, c231, c232, c233, .slice (some ⟨LWo, 0, none⟩) 3 3, .int .i64 3, u236, u237, u238, u239, u240, u241, u242, u243, u244, u245, u246, u247, u248, u249, u250, u251, u252, u253, u254, u255, u256, u257, u258, u259, u260, u261, u262, u263, u264, u265, u266, u267, u268, u269, u270, u271, u272, u273, u274, u275, u276, u277, c278, c279, c280, c281, c282, c283, c284, c285, c286, c287, c288, c289, c290, c291, c292, c293, c294, c295, c296, c297, c298, c299, c300, c301, c302, c303, c304, c305, c306, c307, c308, c309, c310, c311, c312, c313, c314, c315, c316, c317, c318, c319, c320, c321, c322, c323, c324, c325, c326, c327, c328, c329, c330, c331, c332, c333, c334, c335, c336, c337, c338, c339], []⟩ wx) :
    Code.wp Try.prog blk10 Q ⟨#[c0, c1, c2, c3, c4, c5, c6, c7, c8, c9, c10, c11, c12, c13, c14, c15, c16, .pointer (some ⟨Bx, 0, none⟩), c18, c19, c20, .int .i64 n, c22, c23, c24, c25, c26, c27, c28, .int .i64 tm, c30, c31, c32, c33, c34, c35, c36, c37, c38, c39, c40, c41, c42, c43, c44, c45, c46, c47, c48, c49, c50, c51, c52, c53, c54, c55, c56, c57, c58, c59, c60, c61, c62, c63, c64, c65, c66, c67, c68, c69, c70, c71, c72, c73, c74, c75, c76, c77, c78, c79, c80, c81, c82, c83, c84, c85, c86, c87, c88, c89, c90, c91, c92, c93, c94, c95, c96, c97, c98, c99, c100, c101, c102, c103, c104, c105, c106, c107, c108, c109, c110, c111, c112, c113, c114, c115, c116, c117, c118, c119, c120, c121, c122, c123, c124, c125, c126, c127, c128, c129, c130, c131, c132, c133, c134, c135, c136, c137, c138, c139, c140, c141, c142, c143, c144, c145, c146, c147, c148, c149, c150, c151, c152, c153, c154, c155, c156, c157, c158, c159, c160, c161, c162, c163, c164, c165, c166, c167, c168, c169, c170, c171, c172, c173, c174, c175, c176, c177, c178, c179, c180, c181, c182, c183, c184, c185, c186, c187, c188, c189, c190, c191, c192, c193, c194, c195, c196, c197, c198, c199, c200, c201, c202, c203, c204, c205, c206, c207, c208, c209, c210, c211, c212, c213, c214, c215, c216, c217, c218, c219, c220, c221, c222, c223, c224, c225, c226, c227, c228, c229, c230, c231, c232, c233, .slice (some ⟨LWo, 0, none⟩) 3 3, .int .i64 3, .int .i64 0, c237, c238, c239, c240, c241, c242, c243, c244, c245, c246, c247, c248, c249, c250, c251, c252, c253, c254, c255, c256, c257, c258, c259, c260, c261, c262, c263, c264, c265, c266, c267, c268, c269, c270, c271, c272, c273, c274, c275, c276, c277, c278, c279, c280, c281, c282, c283, c284, c285, c286, c287, c288, c289, c290, c291, c292, c293, c294, c295, c296, c297, c298, c299, c300, c301, c302, c303, c304, c305, c306, c307, c308, c309, c310, c311, c312, c313, c314, c315, c316, c317, c318, c319, c320, c321, c322, c323, c324, c325, c326, c327, c328, c329, c330, c331, c332, c333, c334, c335, c336, c337, c338, c339], []⟩ Wo := by
  conv => arg 2; whnf
  go_wp2_with fail
  go_loopg [236] 3 (fun gg s236 wr => ∃ k : Nat, k ≤ 3 ∧ 3 - k ≤ gg ∧ s236 = .int .i64 k ∧ Aside (Below Wo.heap.size Wo wr))
  case atStart => exact ⟨0, by omega, by omega, rfl, Below.refl _ _⟩
  case round =>
    obtain ⟨s, hs, hgs, rfl, BS⟩ := hrel
    by_cases hlts : s < 3
    · have hltzs : (s : Int) < 3 := by omega
      have hnes : (0 : Int) ≤ (s : Int) := by omega
      obtain ⟨pa, pn, pc, qa, qn, qc, g0, g1, hls⟩ := ZWo.out wr BS.out s hlts
      obtain ⟨ed, eb, ee, hE⟩ := HO.out.earl _ _ hls tm n
      have HEA := Lib.hid hE
      clear hE hls
      obtain ⟨d0, d1, d2⟩ := HBX.out _ (HXWo.out _ BS.out)
      have hBx : Bx < wr.heap.size := by have h1 := (HXWo.out _ BS.out).size; have h2 := HZX.out; omega
      have BY := Lib.hid (BS.out.trans ((Below.alloc1 wr (.cells #[.slice pa pn pc, .slice qa qn qc] 42)).mono BS.out.size))
      have y0 : (wr.alloc (.cells #[.slice pa pn pc, .slice qa qn qc] 42)).cell? ⟨wr.heap.size, 0, none⟩ = some (.slice pa pn pc) := World.cell?_alloc_at _ _ _ _ rfl
      have y1 : (wr.alloc (.cells #[.slice pa pn pc, .slice qa qn qc] 42)).cell? ⟨wr.heap.size, 1, none⟩ = some (.slice qa qn qc) := World.cell?_alloc_at _ _ _ _ rfl
      have hyB : wr.heap.size < (wr.alloc (.cells #[.slice pa pn pc, .slice qa qn qc] 42)).heap.size := by simp
      have HY := Lib.hid (And.intro y0 (And.intro y1 hyB))
      clear y0 y1 hyB
      go_wp2_with fail
      generalize wr.alloc (.cells #[.slice pa pn pc, .slice qa qn qc] 42) = Wy at *
      generalize wr.heap.size = By at *
      clear d0 d1 d2 g0 g1 hBx
      refine ((HEA.out _ (HXWo.out _ BY.out)).1).mono ?_
      rintro e w41 ⟨rfl, hb⟩
      have BY1 := Lib.hid (BY.out.trans (hb.mono BY.out.size))
      obtain ⟨d0, d1, d2⟩ := HBX.out _ (HXWo.out _ BY1.out)
      have y0 := (hb.cell (p := ⟨By, 0, none⟩) HY.out.2.2).trans HY.out.1
      have y1 := (hb.cell (p := ⟨By, 1, none⟩) HY.out.2.2).trans HY.out.2.1
      clear hb
      go_wp2_with fail
      clear d0 d1 d2 y0 y1
      refine ((HEA.out _ (HXWo.out _ BY1.out)).2).mono ?_
      rintro e w42 ⟨rfl, hb⟩
      have BY2 := Lib.hid (BY1.out.trans (hb.mono BY1.out.size))
      obtain ⟨d0, d1, d2⟩ := HBX.out _ (HXWo.out _ BY2.out)
      clear hb
      go_wp2_with fail
      go_roundg (3 - (s + 1))
      case measure => omega
      case rel => exact ⟨s + 1, by omega, by omega, by go_num, BY2.out⟩
    · have hltzs : ¬ (s : Int) < 3 := by omega
      clear HBX HO
      go_wp2_with fail
      all_goals exact BS.out
end Go.Proofs.Ytpbahffkhpfakaa

namespace Go.Proofs.Ytpbahffkhpfakaa
open Go.RowKit
set_option linter.unusedSimpArgs false
set_option linter.unusedVariables false

set_option maxRecDepth 1000000 in
set_option maxHeartbeats 16000000 in
theorem all3 {Q : Exit → Act → World → Prop} {Wn Wx : World} {Bx LWn : Nat} {n : Int} {xa : Option Addr} {xn xc : Nat} {ya : Option Addr} {yn yc : Nat} {za : Option Addr} {zn zc : Nat} {t1 : Option Addr} {n1 m1 : Nat} {t2 : Option Addr} {n2 m2 : Nat} {a13 : Option Addr} {n13 m13 : Nat} {a14 : Option Addr} {n14 m14 : Nat} {c0 c1 c4 c5 c6 c7 c8 c9 c10 c11 c12 c15 c16 c18 c19 c20 c22 c23 c24 c25 c26 c27 c28 c29 c30 c31 c32 c33 c34 c35 c36 c37 c38 c39 c40 c41 c42 c43 c44 c45 c46 c47 c48 c49 c50 c51 c52 c53 c54 c55 c56 c57 c58 c59 c60 c61 c62 c63 c64 c65 c66 c67 c68 c69 c70 c71 c72 c73 c74 c75 c76 c77 c78 c79 c80 c81 c82 c83 c84 c85 c86 c87 c88 c89 c90 c91 c92 c93 c94 c95 c96 c97 c98 c99 c100 c101 c102 c103 c104 c105 c106 c107 c108 c109 c110 c111 c112 c113 c114 c115 c116 c117 c118 c119 c120 c121 c122 c123 c124 c125 c126 c127 c128 c129 c130 c131 c132 c133 c134 c135 c136 c137 c138 c139 c140 c141 c142 c143 c144 c145 c146 c147 c148 c149 c150 c151 c152 c153 c154 c155 c156 c157 c158 c159 c160 c161 c162 c163 c164 c165 c166 c167 c171 c172 c173 c174 c175 c176 c177 c178 c179 c180 c181 c182 c183 c184 c185 c186 c187 c188 c189 c190 c191 c192 c193 c194 c195 c196 c197 c198 c199 c200 c201 c202 c203 c204 c205 c206 c207 c208 c209 c210 c211 c212 c213 c214 c215 c216 c217 c218 c219 c220 c221 c222 c223 c224 c225 c226 c227 c228 c229 c230 c231 c232 c233 c234 c235 c236 c237 c238 c239 c240 c241 c242 c243 c244 c245 c246 c247 c248 c249 c250 c251 c252 c253 c254 c255 c256 c257 c258 c259 c260 c261 c262 c263 c264 c265 c266 c267 c268 c269 c270 c271 c272 c273 c274 c275 c276 c277 c278 c279 c280 c281 c282 c283 c284 c285 c286 c287 c288 c289 c290 c291 c292 c293 c294 c295 c296 c297 c298 c299 c300 c301 c302 c303 c304 c305 c306 c307 c308 c309 c310 c311 c312 c313 c314 c315 c316 c317 c318 c319 c320 c321 c322 c323 c324 c325 c326 c327 c328 c329 c330 c331 c332 c333 c334 c335 c336 c337 c338 c339 : Value}
    (HO : Hid (Both Wx (.agg #[.slice xa xn xc, .slice ya yn yc, .slice za zn zc])))
    (HBX : Hid (∀ W, Below Wx.heap.size Wx W → W.cell? ⟨Bx, 0, none⟩ = some (.slice xa xn xc) ∧ W.cell? ⟨Bx, 1, none⟩ = some (.slice ya yn yc) ∧ W.cell? ⟨Bx, 2, none⟩ = some (.slice za zn zc)))
    (HZX : Hid (Wx.heap.size = Bx + 1))
    (HLX : Hid (Four4 Wx (.slice a13 n13 m13) (.slice a14 n14 m14) (.slice t1 n1 m1) (.slice t2 n2 m2)))
    (HXWn : Hid (∀ W, Below Wn.heap.size Wn W → Below Wx.heap.size Wx W))
    (ZWn : Hid (∀ V, Below Wn.heap.size Wn V → ∀ k, k < 3 → ∃ n : Int, V.cell? ⟨LWn, k, none⟩ = some (.int .i64 n)))
    (hq : ∀ (u10 u29 u30 u31 u32 u33 u34 u35 u36 u37 u38 u39 u41 u42 u43 u44 u45 u46 u47 u170 u171 u172 u173 u174 u175 u176 u177 u178 u179 u180 u181 u182 u183 u184 u185 u186 u187 u188 u189 u190 u191 u192 u193 u194 u195 u196 u197 u198 u199 u200 u201 u202 u203 u204 u205 u206 u207 u208 u209 u210 u211 u212 u213 u214 u215 u216 u217 u218 u219 u220 u221 u222 u223 u224 u225 u226 u227 u228 u229 u230 u231 u232 u233 u234 u235 u236 u237 u238 u239 u240 u241 u242 u243 u244 u245 u246 u247 u248 u249 u250 u251 u252 u253 u254 u255 u256 u257 u258 u259 u260 u261 u262 u263 u264 u265 u266 u267 u268 u269 u270 u271 u272 u273 u274 u275 u276 u277 u278 : Value) (wx : World), Below Wn.heap.size Wn wx → Q .normal ⟨#[c0, c1, .slice t1 n1 m1, .slice t2 n2 m2, c4, c5, c6, c7, c8, c9, u10, c11, c12, .slice a13 n13 m13, .slice a14 n14 m14, c15, c16, .pointer (some ⟨Bx, 0, none⟩), c18, c19, c20, .int .i64 n, c22, c23, c24, c25, c26, c27, c28, u29, u30, u31, u32, u33, u34, u35, u36, u37, u38, u39, c40, u41, u42, u43, u44, u45, u46, u47, c48, c49, c50, c51, c52, c53, c54, c55, c56, c57, c58, c59, c60, c61, c62, c63, c64, c65, c66, c67, c68, c69, c70, c71, c72, c73, c74, c75, c76, c77, c78, c79, c80, c81, c82, c83, c84, c85, c86, c87, c88, c89, c90, c91, c92, c93, c94, c95, c96, c97, c98, c99, c100, c101, c102, c103, c104, c105, c106, c107, c108, c109, c110, c111, c112, c113, c114, c115, c116, c117, c118, c119, c120, c121, c122, c123, c124, c125, c126, c127, c128, c129, c130, c131, c132, c133, c134, c135, c136, c137, c138, c139, c140, c141, c142, c143, c144, c145, c146, c147, c148, c149, c150, c151, c152, c153, c154, c155, c156, c157, c158, c159, c160, c161, c162, c163, c164, c165, c166, c167, .slice (some ⟨LWn, 0, none⟩) 3 3, .int .i64 3, u170, u171, u172, u173, u174, u175, u176, u177, u178, u179, u180, u181, u182, u183, u184, u185, u186, u187, u188, u189, u190, u191, u192, u193, u194, u195, u196, u197, u198, u199, u200, u201, u202, u203, u204, u205, u206, u207, u208, u209, u210, u211, u212, u213, u214, u215, u216, u217, u218, u219, u220, u221, u222, u223, u224, u225, u226, u227, u228, u229, u230, u231, u232, u233, u234, u235, u236, u237, u238, u239, u240, u241, u242, u243, u244, u245, u246, u247, u248, u249, u250, u251, u252, u253, u254, u255, u256, u257, u258, u259, u260, u261, u262, u263, u264, u265, u266, u267, u268, u269, u270, u271, u272, u273, u274, u275, u276, u277, u278, c279, c280, c281, c282, c283, c284, c285, c286, c287, c288, c289, c290, c291, c292, c293, c294, c295, c296, c297, c298, c299, c300, c301, c302, c303, c304, c305, c306, c307, c308, c309, c310, c311, c312, c313, c314, c315, c316, c317, c318, c319, c320, c321, c322, c323, c324, c325, c326, c327, c328, c329, c330, c331, c332, c333, c334, c335, c336, c337, c338, c339], []⟩ wx) :
    Code.wp Try.prog blk8 Q ⟨#[c0, c1, .slice t1 n1 m1, .slice t2 n2 m2, c4, c5, c6, c7, c8, c9, c10, c11, c12, .slice a13 n13 m13, .slice a14 n14 m14, c15, c16, .pointer (some ⟨Bx, 0, none⟩), c18, c19, c20, .int .i64 n, c22, c23, c24, c25, c26, c27, c28, c29, c30, c31, c32, c33, c34, c35, c36, c37, c38, c39, c40, c41, c42, c43, c44, c45, c46, c47, c48, c49, c50, c51, c52, c53, c54, c55, c56, c57, c58, c59, c60, c61, c62, c63, c64, c65, c66, c67, c68, c69, c70, c71, c72, c73, c74, c75, c76, c77, c78, c79, c80, c81, c82, c83, c84, c85, c86, c87, c88, c89, c90, c91, c92, c93, c94, c95, c96, c97, c98, c99, c100, c101, c102, c103, c104, c105, c106, c107, c108, c109, c110, c111, c112, c113, c114, c115, c116, c117, c118, c119, c120, c121, c122, c123, c124, c125, c126, c127, c128, c129, c130, c131, c132, c133, c134, c135, c136, c137, c138, c139, c140, c141, c142, c143, c144, c145, c146, c147, c148, c149, c150, c151, c152, c153, c154, c155, c156, c157, c158, c159, c160, c161, c162, c163, c164, c165, c166, c167, .slice (some ⟨LWn, 0, none⟩) 3 3, .int .i64 3, .int .i64 0, c171, c172, c173, c174, c175, c176, c177, c178, c179, c180, c181, c182, c183, c184, c185, c186, c187, c188, c189, c190, c191, c192, c193, c194, c195, c196, c197, c198, c199, c200, c201, c202, c203, c204, c205, c206, c207, c208, c209, c210, c211, c212, c213, c214, c215, c216, c217, c218, c219, c220, c221, c222, c223, c224, c225, c226, c227, c228, c229, c230, c231, c232, c233, c234, c235, c236, c237, c238, c239, c240, c241, c242, c243, c244, c245, c246, c247, c248, c249, c250, c251, c252, c253, c254, c255, c256, c257, c258, c259, c260, c261, c262, c263, c264, c265, c266, c267, c268, c269, c270, c271, c272, c273, c274, c275, c276, c277, c278, c279, c280, c281, c282, c283, c284, c285, c286, c287, c288, c289, c290, c291, c292, c293, c294, c295, c296, c297, c298, c299, c300, c301, c302, c303, c304, c305, c306, c307, c308, c309, c310, c311, c312, c313, c314, c315, c316, c317, c318, c319, c320, c321, c322, c323, c324, c325, c326, c327, c328, c329, c330, c331, c332, c333, c334, c335, c336, c337, c338, c339], []⟩ Wn := by
  conv => arg 2; whnf
  go_wp2_with fail
  go_loopg [170] 3 (fun gg s170 wr => ∃ k : Nat, k ≤ 3 ∧ 3 - k ≤ gg ∧ s170 = .int .i64 k ∧ Aside (Below Wn.heap.size Wn wr))
  case atStart => exact ⟨0, by omega, by omega, rfl, Below.refl _ _⟩
  case round =>
    obtain ⟨r, hr, hgr, rfl, BR⟩ := hrel
    by_cases hltr : r < 3
    · have hltzr : (r : Int) < 3 := by omega
      have hner : (0 : Int) ≤ (r : Int) := by omega
      obtain ⟨tm, htm⟩ := ZWn.out wr BR.out r hltr
      obtain ⟨mb, me, hmay⟩ := HO.out.may tm n
      have HMAY := Lib.hid hmay
      obtain ⟨nd, nb, ne, hnxt⟩ := HO.out.next tm n
      have HNXT := Lib.hid hnxt
      clear hmay hnxt
      obtain ⟨d0, d1, d2⟩ := HBX.out _ (HXWn.out _ BR.out)
      go_wp2_with fail
      clear d0 d1 d2 htm
      refine ((HMAY.out _ (HXWn.out _ BR.out)).1).mono ?_
      rintro e w31 ⟨rfl, hb⟩
      have BR1 := Lib.hid (BR.out.trans (hb.mono BR.out.size))
      obtain ⟨d0, d1, d2⟩ := HBX.out _ (HXWn.out _ BR1.out)
      clear hb
      go_wp2_with fail
      clear d0 d1 d2
      refine ((HMAY.out _ (HXWn.out _ BR1.out)).2).mono ?_
      rintro e w32 ⟨rfl, hb⟩
      have BR2 := Lib.hid (BR1.out.trans (hb.mono BR1.out.size))
      obtain ⟨d0, d1, d2⟩ := HBX.out _ (HXWn.out _ BR2.out)
      clear hb
      go_wp2_with fail
      clear d0 d1 d2
      refine ((HNXT.out _ (HXWn.out _ BR2.out)).1).mono ?_
      rintro e w33 ⟨rfl, hb⟩
      have BR3 := Lib.hid (BR2.out.trans (hb.mono BR2.out.size))
      obtain ⟨d0, d1, d2⟩ := HBX.out _ (HXWn.out _ BR3.out)
      clear hb
      go_wp2_with fail
      clear d0 d1 d2
      refine ((HNXT.out _ (HXWn.out _ BR3.out)).2).mono ?_
      rintro e w34 ⟨rfl, hb⟩
      have BR4 := Lib.hid (BR3.out.trans (hb.mono BR3.out.size))
      obtain ⟨d0, d1, d2⟩ := HBX.out _ (HXWn.out _ BR4.out)
      clear hb
      go_upto_block 10 with fail
      clear d0 d1 d2
      have XWo2 := Lib.hid (BR4.out.trans ((Below.alloc1 w34 (.cells #[.slice a13 n13 m13, .slice a14 n14 m14, .slice t1 n1 m1, .slice t2 n2 m2, .slice none 0 0, .slice none 0 0] 42)).mono BR4.out.size))
      have XWo := Lib.hid ((HXWn.out _ BR4.out).trans ((Below.alloc1 w34 (.cells #[.slice a13 n13 m13, .slice a14 n14 m14, .slice t1 n1 m1, .slice t2 n2 m2, .slice none 0 0, .slice none 0 0] 42)).mono ((HXWn.out _ BR4.out)).size))
      have ZWo := Lib.hid (lists_at w34 Wx HLX.out.ab HLX.out.td HLX.out.nn)
      generalize w34.alloc (.cells #[.slice a13 n13 m13, .slice a14 n14 m14, .slice t1 n1 m1, .slice t2 n2 m2, .slice none 0 0, .slice none 0 0] 42) = Wo at *
      generalize w34.heap.size = LWo at *
      have HXWo := Lib.hid (fun (W : World) (hW : Below Wo.heap.size Wo W) => show Below Wx.heap.size Wx W from XWo.out.trans (hW.mono XWo.out.size))
      refine all4 HO HBX HZX HXWo ZWo ?_
      intro _ _ _ _ _ _ _ _ _ _ _ _ _ _ _ _ _ _ _ _ _ _ _ _ _ _ _ _ _ _ _ _ _ _ _ _ _ _ _ _ _ _ _ _ _ _ _ _ _ _ wx hbx
      have BR5 := Lib.hid (XWo2.out.trans (hbx.mono XWo2.out.size))
      clear hbx
      go_wp2_with fail
      go_roundg (3 - (r + 1))
      case measure => omega
      case rel => exact ⟨r + 1, by omega, by omega, by go_num, BR5.out⟩
    · have hltzr : ¬ (r : Int) < 3 := by omega
      clear HBX HO
      go_wp2_with fail
      all_goals exact BR.out
end Go.Proofs.Ytpbahffkhpfakaa

namespace Go.Proofs.Ytpbahffkhpfakaa
open Go.RowKit
set_option linter.unusedSimpArgs false
set_option linter.unusedVariables false

set_option maxRecDepth 1000000 in
set_option maxHeartbeats 16000000 in
theorem all2 {Q : Exit → Act → World → Prop} {Wm Wx : World} {Bx LWm : Nat} {xa : Option Addr} {xn xc : Nat} {ya : Option Addr} {yn yc : Nat} {za : Option Addr} {zn zc : Nat} {t1 : Option Addr} {n1 m1 : Nat} {t2 : Option Addr} {n2 m2 : Nat} {a13 : Option Addr} {n13 m13 : Nat} {a14 : Option Addr} {n14 m14 : Nat} {c0 c1 c4 c5 c6 c7 c8 c9 c10 c11 c12 c15 c16 c18 c19 c20 c21 c22 c23 c24 c25 c26 c27 c28 c29 c30 c31 c32 c33 c34 c35 c36 c37 c38 c39 c40 c41 c42 c43 c44 c45 c46 c47 c48 c49 c50 c51 c52 c53 c54 c55 c56 c57 c58 c59 c60 c61 c62 c63 c64 c65 c66 c67 c68 c69 c70 c71 c72 c73 c74 c75 c76 c77 c78 c79 c80 c81 c82 c83 c84 c85 c86 c87 c88 c89 c90 c91 c92 c93 c94 c95 c96 c97 c98 c99 c100 c101 c102 c103 c104 c105 c106 c107 c108 c109 c110 c111 c112 c113 c114 c115 c116 c117 c118 c119 c120 c121 c122 c123 c124 c125 c126 c127 c128 c129 c130 c131 c132 c133 c137 c138 c139 c140 c141 c142 c143 c144 c145 c146 c147 c148 c149 c150 c151 c152 c153 c154 c155 c156 c157 c158 c159 c160 c161 c162 c163 c164 c165 c166 c167 c168 c169 c170 c171 c172 c173 c174 c175 c176 c177 c178 c179 c180 c181 c182 c183 c184 c185 c186 c187 c188 c189 c190 c191 c192 c193 c194 c195 c196 c197 c198 c199 c200 c201 c202 c203 c204 c205 c206 c207 c208 c209 c210 c211 c212 c213 c214 c215 c216 c217 c218 c219 c220 c221 c222 c223 c224 c225 c226 c227 c228 c229 c230 c231 c232 c233 c234 c235 c236 c237 c238 c239 c240 c241 c242 c243 c244 c245 c246 c247 c248 c249 c250 c251 c252 c253 c254 c255 c256 c257 c258 c259 c260 c261 c262 c263 c264 c265 c266 c267 c268 c269 c270 c271 c272 c273 c274 c275 c276 c277 c278 c279 c280 c281 c282 c283 c284 c285 c286 c287 c288 c289 c290 c291 c292 c293 c294 c295 c296 c297 c298 c299 c300 c301 c302 c303 c304 c305 c306 c307 c308 c309 c310 c311 c312 c313 c314 c315 c316 c317 c318 c319 c320 c321 c322 c323 c324 c325 c326 c327 c328 c329 c330 c331 c332 c333 c334 c335 c336 c337 c338 c339 : Value}
    (HO : Hid (Both Wx (.agg #[.slice xa xn xc, .slice ya yn yc, .slice za zn zc])))
    (HBX : Hid (∀ W, Below Wx.heap.size Wx W → W.cell? ⟨Bx, 0, none⟩ = some (.slice xa xn xc) ∧ W.cell? ⟨Bx, 1, none⟩ = some (.slice ya yn yc) ∧ W.cell? ⟨Bx, 2, none⟩ = some (.slice za zn zc)))
    (HZX : Hid (Wx.heap.size = Bx + 1))
    (HLX : Hid (Four4 Wx (.slice a13 n13 m13) (.slice a14 n14 m14) (.slice t1 n1 m1) (.slice t2 n2 m2)))
    (HXWm : Hid (∀ W, Below Wm.heap.size Wm W → Below Wx.heap.size Wx W))
    (ZWm : Hid (∀ V, Below Wm.heap.size Wm V → ∀ k, k < 2 → ∃ n : Int, V.cell? ⟨LWm, k, none⟩ = some (.int .i64 n)))
    (hq : ∀ (u10 u21 u22 u23 u24 u25 u26 u27 u29 u30 u31 u32 u33 u34 u35 u36 u37 u38 u39 u41 u42 u43 u44 u45 u46 u47 u136 u137 u138 u139 u140 u141 u142 u143 u144 u145 u146 u147 u148 u149 u150 u151 u152 u153 u154 u155 u156 u157 u158 u159 u160 u161 u162 u163 u164 u165 u166 u167 u168 u169 u170 u171 u172 u173 u174 u175 u176 u177 u178 u179 u180 u181 u182 u183 u184 u185 u186 u187 u188 u189 u190 u191 u192 u193 u194 u195 u196 u197 u198 u199 u200 u201 u202 u203 u204 u205 u206 u207 u208 u209 u210 u211 u212 u213 u214 u215 u216 u217 u218 u219 u220 u221 u222 u223 u224 u225 u226 u227 u228 u229 u230 u231 u232 u233 u234 u235 u236 u237 u238 u239 u240 u241 u242 u243 u244 u245 u246 u247 u248 u249 u250 u251 u252 u253 u254 u255 u256 u257 u258 u259 u260 u261 u262 u263 u264 u265 u266 u267 u268 u269 u270 u271 u272 u273 u274 u275 u276 u277 u278 u279 : Value) (wx : World), Below Wm.heap.size Wm wx → Q .normal ⟨#[c0, c1, .slice t1 n1 m1, .slice t2 n2 m2, c4, c5, c6, c7, c8, c9, u10, c11, c12, .slice a13 n13 m13, .slice a14 n14 m14, c15, c16, .pointer (some ⟨Bx, 0, none⟩), c18, c19, c20, u21, u22, u23, u24, u25, u26, u27, c28, u29, u30, u31, u32, u33, u34, u35, u36, u37, u38, u39, c40, u41, u42, u43, u44, u45, u46, u47, c48, c49, c50, c51, c52, c53, c54, c55, c56, c57, c58, c59, c60, c61, c62, c63, c64, c65, c66, c67, c68, c69, c70, c71, c72, c73, c74, c75, c76, c77, c78, c79, c80, c81, c82, c83, c84, c85, c86, c87, c88, c89, c90, c91, c92, c93, c94, c95, c96, c97, c98, c99, c100, c101, c102, c103, c104, c105, c106, c107, c108, c109, c110, c111, c112, c113, c114, c115, c116, c117, c118, c119, c120, c121, c122, c123, c124, c125, c126, c127, c128, c129, c130, c131, c132, c133, .slice (some ⟨LWm, 0, none⟩) 2 2, .int .i64 2, u136, u137, u138, u139, u140, u141, u142, u143, u144, u145, u146, u147, u148, u149, u150, u151, u152, u153, u154, u155, u156, u157, u158, u159, u160, u161, u162, u163, u164, u165, u166, u167, u168, u169, u170, u171, u172, u173, u174, u175, u176, u177, u178, u179, u180, u181, u182, u183, u184, u185, u186, u187, u188, u189, u190, u191, u192, u193, u194, u195, u196, u197, u198, u199, u200, u201, u202, u203, u204, u205, u206, u207, u208, u209, u210, u211, u212, u213, u214, u215, u216, u217, u218, u219, u220, u221, u222, u223, u224, u225, u226, u227, u228, u229, u230, u231, u232, u233, u234, u235, u236, u237, u238, u239, u240, u241, u242, u243, u244, u245, u246, u247, u248, u249, u250, u251, u252, u253, u254, u255, u256, u257, u258, u259, u260, u261, u262, u263, u264, u265, u266, u267, u268, u269, u270, u271, u272, u273, u274, u275, u276, u277, u278, u279, c280, c281, c282, c283, c284, c285, c286, c287, c288, c289, c290, c291, c292, c293, c294, c295, c296, c297, c298, c299, c300, c301, c302, c303, c304, c305, c306, c307, c308, c309, c310, c311, c312, c313, c314, c315, c316, c317, c318, c319, c320, c321, c322, c323, c324, c325, c326, c327, c328, c329, c330, c331, c332, c333, c334, c335, c336, c337, c338, c339], []⟩ wx) :
    Code.wp Try.prog blk6 Q ⟨#[c0, c1, .slice t1 n1 m1, .slice t2 n2 m2, c4, c5, c6, c7, c8, c9, c10, c11, c12, .slice a13 n13 m13, .slice a14 n14 m14, c15, c16, .pointer (some ⟨Bx, 0, none⟩), c18, c19, c20, c21, c22, c23, c24, c25, c26, c27, c28, c29, c30, c31, c32, c33, c34, c35, c36, c37, c38, c39, c40, c41, c42, c43, c44, c45, c46, c47, c48, c49, c50, c51, c52, c53, c54, c55, c56, c57, c58, c59, c60, c61, c62, c63, c64, c65, c66, c67, c68, c69, c70, c71, c72, c73, c74, c75, c76, c77, c78, c79, c80, c81, c82, c83, c84, c85, c86, c87, c88, c89, c90, c91, c92, c93, c94, c95, c96, c97, c98, c99, c100, c101, c102, c103, c104, c105, c106, c107, c108, c109, c110, c111, c112, c113, c114, c115, c116, c117, c118, c119, c120, c121, c122, c123, c124, c125, c126, c127, c128, c129, c130, c131, c132, c133, .slice (some ⟨LWm, 0, none⟩) 2 2, .int .i64 2, .int .i64 0, c137, c138, c139, c140, c141, c142, c143, c144, c145, c146, c147, c148, c149, c150, c151, c152, c153, c154, c155, c156, c157, c158, c159, c160, c161, c162, c163, c164, c165, c166, c167, c168, c169, c170, c171, c172, c173, c174, c175, c176, c177, c178, c179, c180, c181, c182, c183, c184, c185, c186, c187, c188, c189, c190, c191, c192, c193, c194, c195, c196, c197, c198, c199, c200, c201, c202, c203, c204, c205, c206, c207, c208, c209, c210, c211, c212, c213, c214, c215, c216, c217, c218, c219, c220, c221, c222, c223, c224, c225, c226, c227, c228, c229, c230, c231, c232, c233, c234, c235, c236, c237, c238, c239, c240, c241, c242, c243, c244, c245, c246, c247, c248, c249, c250, c251, c252, c253, c254, c255, c256, c257, c258, c259, c260, c261, c262, c263, c264, c265, c266, c267, c268, c269, c270, c271, c272, c273, c274, c275, c276, c277, c278, c279, c280, c281, c282, c283, c284, c285, c286, c287, c288, c289, c290, c291, c292, c293, c294, c295, c296, c297, c298, c299, c300, c301, c302, c303, c304, c305, c306, c307, c308, c309, c310, c311, c312, c313, c314, c315, c316, c317, c318, c319, c320, c321, c322, c323, c324, c325, c326, c327, c328, c329, c330, c331, c332, c333, c334, c335, c336, c337, c338, c339], []⟩ Wm := by
  conv => arg 2; whnf
  go_wp2_with fail
  go_loopg [136] 2 (fun gg s136 wr => ∃ k : Nat, k ≤ 2 ∧ 2 - k ≤ gg ∧ s136 = .int .i64 k ∧ Aside (Below Wm.heap.size Wm wr))
  case atStart => exact ⟨0, by omega, by omega, rfl, Below.refl _ _⟩
  case round =>
    obtain ⟨q, hq, hgq, rfl, BQ⟩ := hrel
    by_cases hltq : q < 2
    · have hltzq : (q : Int) < 2 := by omega
      have hneq : (0 : Int) ≤ (q : Int) := by omega
      obtain ⟨n, hn⟩ := ZWm.out wr BQ.out q hltq
      obtain ⟨ai, ab, ae, hat⟩ := HO.out.at_ n
      have HAT := Lib.hid hat
      clear hat
      obtain ⟨d0, d1, d2⟩ := HBX.out _ (HXWm.out _ BQ.out)
      go_wp2_with fail
      clear d0 d1 d2 hn
      refine ((HAT.out _ (HXWm.out _ BQ.out)).1).mono ?_
      rintro e w21 ⟨rfl, hb⟩
      have BQ1 := Lib.hid (BQ.out.trans (hb.mono BQ.out.size))
      obtain ⟨d0, d1, d2⟩ := HBX.out _ (HXWm.out _ BQ1.out)
      clear hb
      go_wp2_with fail
      clear d0 d1 d2
      refine ((HAT.out _ (HXWm.out _ BQ1.out)).2).mono ?_
      rintro e w22 ⟨rfl, hb⟩
      have BQ2 := Lib.hid (BQ1.out.trans (hb.mono BQ1.out.size))
      obtain ⟨d0, d1, d2⟩ := HBX.out _ (HXWm.out _ BQ2.out)
      clear hb
      go_upto_block 8 with fail
      clear d0 d1 d2
      have XWn2 := Lib.hid (BQ2.out.trans ((Below.alloc1 w22 (.cells #[.int .i64 0, .int .i64 1, .int .i64 n] 3)).mono BQ2.out.size))
      have XWn := Lib.hid ((HXWm.out _ BQ2.out).trans ((Below.alloc1 w22 (.cells #[.int .i64 0, .int .i64 1, .int .i64 n] 3)).mono ((HXWm.out _ BQ2.out)).size))
      have ZWn := Lib.hid (lit3_at w22 0 1 n)
      generalize w22.alloc (.cells #[.int .i64 0, .int .i64 1, .int .i64 n] 3) = Wn at *
      generalize w22.heap.size = LWn at *
      have HXWn := Lib.hid (fun (W : World) (hW : Below Wn.heap.size Wn W) => show Below Wx.heap.size Wx W from XWn.out.trans (hW.mono XWn.out.size))
      refine all3 HO HBX HZX HLX HXWn ZWn ?_
      intro _ _ _ _ _ _ _ _ _ _ _ _ _ _ _ _ _ _ _ _ _ _ _ _ _ _ _ _ _ _ _ _ _ _ _ _ _ _ _ _ _ _ _ _ _ _ _ _ _ _ _ _ _ _ _ _ _ _ _ _ _ _ _ _ _ _ _ _ _ _ _ _ _ _ _ _ _ _ _ _ _ _ _ _ _ _ _ _ _ _ _ _ _ _ _ _ _ _ _ _ _ _ _ _ _ _ _ _ _ _ _ _ _ _ _ _ _ _ _ _ _ _ _ _ _ _ _ _ wx hbx
      have BQ3 := Lib.hid (XWn2.out.trans (hbx.mono XWn2.out.size))
      clear hbx
      go_wp2_with fail
      go_roundg (2 - (q + 1))
      case measure => omega
      case rel => exact ⟨q + 1, by omega, by omega, by go_num, BQ3.out⟩
    · have hltzq : ¬ (q : Int) < 2 := by omega
      clear HBX HO
      go_wp2_with fail
      all_goals exact BQ.out
end Go.Proofs.Ytpbahffkhpfakaa

namespace Go.Proofs.Ytpbahffkhpfakaa
open Go.RowKit
set_option linter.unusedSimpArgs false
set_option linter.unusedVariables false

set_option maxRecDepth 1000000 in
set_option maxHeartbeats 16000000 in
theorem all5 {Q : Exit → Act → World → Prop} {Wp Wx : World} {Bx LWp : Nat} {xa : Option Addr} {xn xc : Nat} {ya : Option Addr} {yn yc : Nat} {za : Option Addr} {zn zc : Nat} {c0 c1 c2 c3 c4 c5 c6 c7 c8 c9 c10 c11 c12 c13 c14 c15 c16 c18 c19 c20 c21 c22 c23 c24 c25 c26 c27 c28 c29 c30 c31 c32 c33 c34 c35 c36 c37 c38 c39 c40 c41 c42 c43 c44 c45 c46 c47 c48 c49 c50 c51 c52 c53 c54 c55 c56 c57 c58 c59 c60 c61 c62 c63 c64 c65 c66 c67 c68 c69 c70 c71 c72 c73 c74 c75 c76 c77 c78 c79 c80 c81 c82 c83 c84 c85 c86 c87 c88 c89 c90 c91 c92 c93 c94 c95 c96 c97 c98 c99 c100 c101 c102 c103 c104 c105 c106 c107 c108 c109 c110 c111 c112 c113 c114 c115 c116 c117 c118 c119 c120 c121 c122 c123 c124 c125 c126 c127 c128 c129 c130 c131 c132 c133 c134 c135 c136 c137 c138 c139 c140 c141 c142 c143 c144 c145 c146 c147 c148 c149 c150 c151 c152 c153 c154 c155 c156 c157 c158 c159 c160 c161 c162 c163 c164 c165 c166 c167 c168 c169 c170 c171 c172 c173 c174 c175 c176 c177 c178 c179 c180 c181 c182 c183 c184 c185 c186 c187 c188 c189 c190 c191 c192 c193 c194 c195 c196 c197 c198 c199 c200 c201 c202 c203 c204 c205 c206 c207 c208 c209 c210 c211 c212 c213 c214 c215 c216 c217 c218 c219 c220 c221 c222 c223 c224 c225 c226 c227 c228 c229 c230 c231 c232 c233 c234 c235 c236 c237 c238 c239 c240 c241 c242 c243 c244 c245 c246 c247 c248 c249 c250 c251 c252 c253 c254 c255 c256 c257 c258 c259 c260 c261 c262 c263 c264 c265 c266 c267 c268 c269 c270 c271 c272 c273 c274 c275 c276 c277 c278 c279 c280 c281 c282 c283 c284 c285 c286 c287 c288 c292 c293 c294 c295 c296 c297 c298 c299 c300 c301 c302 c303 c304 c305 c306 c307 c308 c309 c310 c311 c312 c313 c314 c315 c316 c317 c318 c319 c320 c321 c322 c323 c324 c325 c326 c327 c328 c329 c330 c331 c332 c333 c334 c335 c336 c337 c338 c339 : Value}
    (HO : Hid (Both Wx (.agg #[.slice xa xn xc, .slice ya yn yc, .slice za zn zc])))
    (HBX : Hid (∀ W, Below Wx.heap.size Wx W → W.cell? ⟨Bx, 0, none⟩ = some (.slice xa xn xc) ∧ W.cell? ⟨Bx, 1, none⟩ = some (.slice ya yn yc) ∧ W.cell? ⟨Bx, 2, none⟩ = some (.slice za zn zc)))
    (HZX : Hid (Wx.heap.size = Bx + 1))
    (HXWp : Hid (∀ W, Below Wp.heap.size Wp W → Below Wx.heap.size Wx W))
    (ZWp : Hid (∀ V, Below Wp.heap.size Wp V → ∀ k, k < 3 → ∃ (pa : Option Addr) (pn pc : Nat) (qa : Option Addr) (qn qc : Nat), V.cell? ⟨LWp, k * 2, none⟩ = some (.slice pa pn pc) ∧ V.cell? ⟨LWp, k * 2 + 1, none⟩ = some (.slice qa qn qc) ∧ ListsOk Wx (.slice pa pn pc) (.slice qa qn qc)))
    (hq : ∀ (u10 u49 u50 u51 u52 u53 u291 u292 u293 u294 u295 u296 u297 u298 u299 u300 u301 u302 u303 u304 u305 u306 u307 u308 u309 u310 u311 u312 u313 u314 u315 u316 u317 u318 u319 u320 u321 u322 u323 u324 u325 u326 u327 u328 u329 u330 u331 u332 u333 u334 u335 u336 u337 : Value) (wx : World), Below Wp.heap.size Wp wx → Q .normal ⟨#[c0, c1, c2, c3, c4, c5, c6, c7, c8, c9, u10, c11, c12, c13, c14, c15, c16, .pointer (some ⟨Bx, 0, none⟩), c18, c19, c20, c21, c22, c23, c24, c25, c26, c27, c28, c29, c30, c31, c32, c33, c34, c35, c36, c37, c38, c39, c40, c41, c42, c43, c44, c45, c46, c47, c48, u49, u50, u51, u52, u53, c54, c55, c56, c57, c58, c59, c60, c61, c62, c63, c64, c65, c66, c67, c68, c69, c70, c71, c72, c73, c74, c75, c76, c77, c78, c79, c80, c81, c82, c83, c84, c85, c86, c87, c88, c89, c90, c91, c92, c93, c94, c95, c96, c97, c98, c99, c100, c101, c102, c103, c104, c105, c106, c107, c108, c109, c110, c111, c112, c113, c114, c115, c116, c117, c118, c119, c120, c121, c122, c123, c124, c125, c126, c127, c128, c129, c130, c131, c132, c133, c134, c135, c136, c137, c138, c139, c140, c141, c142, c143, c144, c145, c146, c147, c148, c149, c150, c151, c152, c153, c154, c155, c156, c157, c158, c159, c160, c161, c162, c163, c164, c165, c166, c167, c168, c169, c170, c171, c172, c173, c174, c175, c176, c177, c178, c179, c180, c181, c182, c183, c184, c185, c186, c187, c188, c189, c190, c191, c192, c193, c194, c195, c196, c197, c198, c199, c200, c201, c202, c203, c204, c205, c206, c207, c208, c209, c210, c211, c212, c213, c214, c215, c216, c217, c218, c219, c220, c221, c222, c223, c224, c225, c226, c227, c228, c229, c230, c231, c232, c233, c234, c235, c236, c237, c238, c239, c240, c241, c242, c243, c244, c245, c246, c247, c248, c249, c250, c251, c252, c253, c254, c255, c256, c257, c258, c259, c260, c261, c262, c263, c264, c265, c266, c267, c268, c269, c270, c271, c272, c273, c274, c275, c276, c277, c278, c279, c280, c281, c282, c283, c284, c285, c286, c287, c288, .slice (some ⟨LWp, 0, none⟩) 3 3, .int .i64 3, u291, u292, u293, u294, u295, u296, u297, u298, u299, u300, u301, u302, u303, u304, u305, u306, u307, u308, u309, u310, u311, u312, u313, u314, u315, u316, u317, u318, u319, u320, u321, u322, u323, u324, u325, u326, u327, u328, u329, u330, u331, u332, u333, u334, u335, u336, u337, c338, c339], []⟩ wx) :
    Code.wp Try.prog blk12 Q ⟨#[c0, c1, c2, c3, c4, c5, c6, c7, c8, c9, c10, c11, c12, c13, c14, c15, c16, .pointer (some ⟨Bx, 0, none⟩), c18, c19, c20, c21, c22, c23, c24, c25, c26, c27, c28, c29, c30, c31, c32, c33, c34, c35, c36, c37, c38, c39, c40, c41, c42, c43, c44, c45, c46, c47, c48, c49, c50, c51, c52, c53, c54, c55, c56, c57, c58, c59, c60, c61, c62, c63, c64, c65, c66, c67, c68, c69, c70, c71, c72, c73, c74, c75, c76, c77, c78, c79, c80, c81, c82, c83, c84, c85, c86, c87, c88, c89, c90, c91, c92, c93, c94, c95, c96, c97, c98, c99, c100, c101, c102, c103, c104, c105, c106, c107, c108, c109, c110, c111, c112, c113, c114, c115, c116, c117, c118, c119, c120, c121, c122, c123, c124, c125, c126, c127, c128, c129, c130, c131, c132, c133, c134, c135, c136, c137, c138, c139, c140, c141, c142, c143, c144, c145, c146, c147, c148, c149, c150, c151, c152, c153, c154, c155, c156, c157, c158, c159, c160, c161, c162, c163, c164, c165, c166, c167, c168, c169, c170, c171, c172, c173, c174, c175, c176, c177, c178, c179, c180, c181, c182, c183, c184, c185, c186, c187, c188, c189, c190, c191, c192, c193, c194, c195, c196, c197, c198, c199, c200, c201, c202, c203, c204, c205, c206, c207, c208, c209, c210, c211, c212, c213, c214, c215, c216, c217, c218, c219, c220, c221, c222, c223, c224, c225, c226, c227, c228, c229, c230, c231, c232, c233, c234, c235, c236, c237, c238, c239, c240, c241, c242, c243, c244, c245, c246, c247, c248, c249, c250, c251, c252, c253, c254, c255, c256, c257, c258, c259, c260, c261, c262, c263, c264, c265, c266, c267, c268, c269, c270, c271, c272, c273, c274, c275, c276, c277, c278, c279, c280, c281, c282, c283, c284, c285, c286, c287, c288, .slice (some ⟨LWp, 0, none⟩) 3 3, .int .i64 3, .int .i64 0, c292, c293, c294, c295, c296, c297, c298, c299, c300, c301, c302, c303, c304, c305, c306, c307, c308, c309, c310, c311, c312, c313, c314, c315, c316, c317, c318, c319, c320, c321, c322, c323, c324, c325, c326, c327, c328, c329, c330, c331, c332, c333, c334, c335, c336, c337, c338, c339], []⟩ Wp := by
  conv => arg 2; whnf
  go_wp2_with fail
  go_loopg [291] 3 (fun gg s291 wr => ∃ k : Nat, k ≤ 3 ∧ 3 - k ≤ gg ∧ s291 = .int .i64 k ∧ Aside (Below Wp.heap.size Wp wr))
  case atStart => exact ⟨0, by omega, by omega, rfl, Below.refl _ _⟩
  case round =>
    obtain ⟨u, hu, hgu, rfl, BU⟩ := hrel
    by_cases hltu : u < 3
    · have hltzu : (u : Int) < 3 := by omega
      have hneu : (0 : Int) ≤ (u : Int) := by omega
      obtain ⟨pa, pn, pc, qa, qn, qc, g0, g1, hls⟩ := ZWp.out wr BU.out u hltu
      obtain ⟨lx, ln, lnr, lF, hld⟩ := HO.out.load _ _ hls
      have HLD := Lib.hid hld
      obtain ⟨fx, hfx⟩ := HO.out.fits _ _ hls
      have HFI := Lib.hid hfx
      clear hld hfx hls
      obtain ⟨d0, d1, d2⟩ := HBX.out _ (HXWp.out _ BU.out)
      have hBx : Bx < wr.heap.size := by have h1 := (HXWp.out _ BU.out).size; have h2 := HZX.out; omega
      have BY := Lib.hid (BU.out.trans ((Below.alloc1 wr (.cells #[.slice pa pn pc, .slice qa qn qc] 42)).mono BU.out.size))
      have y0 : (wr.alloc (.cells #[.slice pa pn pc, .slice qa qn qc] 42)).cell? ⟨wr.heap.size, 0, none⟩ = some (.slice pa pn pc) := World.cell?_alloc_at _ _ _ _ rfl
      have y1 : (wr.alloc (.cells #[.slice pa pn pc, .slice qa qn qc] 42)).cell? ⟨wr.heap.size, 1, none⟩ = some (.slice qa qn qc) := World.cell?_alloc_at _ _ _ _ rfl
      have hyB : wr.heap.size < (wr.alloc (.cells #[.slice pa pn pc, .slice qa qn qc] 42)).heap.size := by simp
      have HY := Lib.hid (And.intro y0 (And.intro y1 hyB))
      clear y0 y1 hyB
      go_wp2_with fail
      generalize wr.alloc (.cells #[.slice pa pn pc, .slice qa qn qc] 42) = Wy at *
      generalize wr.heap.size = By at *
      clear d0 d1 d2 g0 g1 hBx
      have HYS := Lib.hid (fun (W : World) (hW : Below Wy.heap.size Wy W) => show (W.cell? ⟨Bx, 0, none⟩ = some (.slice xa xn xc) ∧ W.cell? ⟨Bx, 1, none⟩ = some (.slice ya yn yc) ∧ W.cell? ⟨Bx, 2, none⟩ = some (.slice za zn zc)) ∧ W.cell? ⟨By, 0, none⟩ = some (.slice pa pn pc) ∧ W.cell? ⟨By, 1, none⟩ = some (.slice qa qn qc) from ⟨HBX.out _ (HXWp.out _ (BY.out.trans (hW.mono BY.out.size))), (hW.cell (p := ⟨By, 0, none⟩) HY.out.2.2).trans HY.out.1, (hW.cell (p := ⟨By, 1, none⟩) HY.out.2.2).trans HY.out.2.1⟩)
      have HYX := Lib.hid (fun (W : World) (hW : Below Wy.heap.size Wy W) => show Below Wx.heap.size Wx W from HXWp.out _ (BY.out.trans (hW.mono BY.out.size)))
      refine ((HLD.out _ (HYX.out _ (Below.refl _ _))).1).mono ?_
      rintro e w51 ⟨la5, lm5, rfl, hrows, hb⟩
      have BY1 := Lib.hid hb
      have HR1 := Lib.hid hrows
      obtain ⟨⟨d0, d1, d2⟩, y0, y1⟩ := HYS.out _ BY1.out
      clear hb hrows
      go_wp2_with fail
      clear d0 d1 d2 y0 y1
      refine ((HLD.out _ (HYX.out _ BY1.out)).2).mono ?_
      rintro e w52 ⟨lb5, lmb, rfl, hrows, hb⟩
      have BY2 := Lib.hid (BY1.out.trans (hb.mono BY1.out.size))
      have HR2 := Lib.hid (HR1.out.below hb)
      have HR3 := Lib.hid hrows
      clear hb hrows HR1 HLD
      have hbd : Below w52.heap.size w52 w52.drew := ⟨rfl, rfl, rfl, Nat.le_refl _, fun _ _ => rfl⟩
      have BY3 := Lib.hid (BY2.out.trans (hbd.mono BY2.out.size))
      have HSM := Lib.hid (same_any _ _ ln lnr lF w52.drew (HR2.out.below hbd) (HR3.out.below hbd))
      clear hbd HR2 HR3
      go_wp2_with fail
      go_region_held3 (fun W => (W.cell? ⟨Bx, 0, none⟩ = some (.slice xa xn xc) ∧ W.cell? ⟨Bx, 1, none⟩ = some (.slice ya yn yc) ∧ W.cell? ⟨Bx, 2, none⟩ = some (.slice za zn zc)) ∧ W.cell? ⟨By, 0, none⟩ = some (.slice pa pn pc) ∧ W.cell? ⟨By, 1, none⟩ = some (.slice qa qn qc)) (first | exact HYS.out _ BY3.out | exact HYS.out _ BY4.out | exact HYS.out _ BY5.out | exact HYS.out _ BY6.out)
        (first
          | (go_simp; go_at_call 27; refine (HSM.out).mono ?_; rintro e w53 ⟨rfl, hb⟩; have BY4 := Lib.hid (BY3.out.trans (hb.mono BY3.out.size)); clear hb)
          | (go_simp; go_at_call 28; refine ((HFI.out _ (HYX.out _ BY4.out)).1).mono ?_; rintro e w54 ⟨rfl, hb⟩; have BY5 := Lib.hid (BY4.out.trans (hb.mono BY4.out.size)); clear hb)
          | (go_simp; go_at_call 29; refine ((HFI.out _ (HYX.out _ BY5.out)).2).mono ?_; rintro e w55 ⟨rfl, hb⟩; have BY6 := Lib.hid (BY5.out.trans (hb.mono BY5.out.size)); clear hb))
      go_wp2_with fail
      have BU2 := Lib.hid (BY.out.trans (BY6.out.mono BY.out.size))
      go_roundg (3 - (u + 1))
      case measure => omega
      case rel => exact ⟨u + 1, by omega, by omega, by go_num, BU2.out⟩
    · have hltzu : ¬ (u : Int) < 3 := by omega
      clear HBX HO
      go_wp2_with fail
      all_goals exact BU.out
end Go.Proofs.Ytpbahffkhpfakaa

namespace Go.Proofs.Ytpbahffkhpfakaa
open Go.RowKit
set_option linter.unusedSimpArgs false
set_option linter.unusedVariables false

set_option maxRecDepth 1000000 in
set_option maxHeartbeats 16000000 in
theorem all0 {Q : Exit → Act → World → Prop} {W6 : World} {L : Nat} {day : Int} {t1 : Option Addr} {n1 m1 : Nat} {t2 : Option Addr} {n2 m2 : Nat} {a13 : Option Addr} {n13 m13 : Nat} {a14 : Option Addr} {n14 m14 : Nat} {c0 c1 c5 c6 c7 c8 c9 c10 c11 c12 c15 c16 c17 c18 c19 c20 c21 c22 c23 c24 c25 c26 c27 c28 c29 c30 c31 c32 c33 c34 c35 c36 c37 c38 c39 c40 c41 c42 c43 c44 c45 c46 c47 c48 c49 c50 c51 c52 c53 c54 c55 c56 c57 c58 c59 c60 c61 c62 c63 c64 c65 c66 c67 c68 c69 c70 c71 c72 c73 c74 c75 c76 c77 c78 c79 c80 c81 c82 c83 c84 c85 c86 c87 c88 c89 c90 c91 c92 c93 c94 c95 c96 c97 c98 c99 c100 c101 c102 c103 c104 c105 c106 c110 c111 c112 c113 c114 c115 c116 c117 c118 c119 c120 c121 c122 c123 c124 c125 c126 c127 c128 c129 c130 c131 c132 c133 c134 c135 c136 c137 c138 c139 c140 c141 c142 c143 c144 c145 c146 c147 c148 c149 c150 c151 c152 c153 c154 c155 c156 c157 c158 c159 c160 c161 c162 c163 c164 c165 c166 c167 c168 c169 c170 c171 c172 c173 c174 c175 c176 c177 c178 c179 c180 c181 c182 c183 c184 c185 c186 c187 c188 c189 c190 c191 c192 c193 c194 c195 c196 c197 c198 c199 c200 c201 c202 c203 c204 c205 c206 c207 c208 c209 c210 c211 c212 c213 c214 c215 c216 c217 c218 c219 c220 c221 c222 c223 c224 c225 c226 c227 c228 c229 c230 c231 c232 c233 c234 c235 c236 c237 c238 c239 c240 c241 c242 c243 c244 c245 c246 c247 c248 c249 c250 c251 c252 c253 c254 c255 c256 c257 c258 c259 c260 c261 c262 c263 c264 c265 c266 c267 c268 c269 c270 c271 c272 c273 c274 c275 c276 c277 c278 c279 c280 c281 c282 c283 c284 c285 c286 c287 c288 c289 c290 c291 c292 c293 c294 c295 c296 c297 c298 c299 c300 c301 c302 c303 c304 c305 c306 c307 c308 c309 c310 c311 c312 c313 c314 c315 c316 c317 c318 c319 c320 c321 c322 c323 c324 c325 c326 c327 c328 c329 c330 c331 c332 c333 c334 c335 c336 c337 c338 c339 : Value}
    (HEL : Hid (∀ i, i < 3 → El W6 L (i * 3)))
    (HLS : Hid (Four4 W6 (.slice a13 n13 m13) (.slice a14 n14 m14) (.slice t1 n1 m1) (.slice t2 n2 m2)))
    (HDAY : Hid (-9223372036854775808 ≤ day ∧ day ≤ 9223372036854775807))
    (hq : ∀ (u10 u17 u19 u21 u22 u23 u24 u25 u26 u27 u29 u30 u31 u32 u33 u34 u35 u36 u37 u38 u39 u41 u42 u43 u44 u45 u46 u47 u49 u50 u51 u52 u53 u109 u110 u111 u112 u113 u114 u115 u116 u117 u118 u119 u120 u121 u122 u123 u124 u125 u126 u127 u128 u129 u130 u131 u132 u133 u134 u135 u136 u137 u138 u139 u140 u141 u142 u143 u144 u145 u146 u147 u148 u149 u150 u151 u152 u153 u154 u155 u156 u157 u158 u159 u160 u161 u162 u163 u164 u165 u166 u167 u168 u169 u170 u171 u172 u173 u174 u175 u176 u177 u178 u179 u180 u181 u182 u183 u184 u185 u186 u187 u188 u189 u190 u191 u192 u193 u194 u195 u196 u197 u198 u199 u200 u201 u202 u203 u204 u205 u206 u207 u208 u209 u210 u211 u212 u213 u214 u215 u216 u217 u218 u219 u220 u221 u222 u223 u224 u225 u226 u227 u228 u229 u230 u231 u232 u233 u234 u235 u236 u237 u238 u239 u240 u241 u242 u243 u244 u245 u246 u247 u248 u249 u250 u251 u252 u253 u254 u255 u256 u257 u258 u259 u260 u261 u262 u263 u264 u265 u266 u267 u268 u269 u270 u271 u272 u273 u274 u275 u276 u277 u278 u279 u280 u281 u282 u283 u284 u285 u286 u287 u288 u289 u290 u291 u292 u293 u294 u295 u296 u297 u298 u299 u300 u301 u302 u303 u304 u305 u306 u307 u308 u309 u310 u311 u312 u313 u314 u315 u316 u317 u318 u319 u320 u321 u322 u323 u324 u325 u326 u327 u328 u329 u330 u331 u332 u333 u334 u335 u336 u337 u338 : Value) (wx : World), Below W6.heap.size W6 wx → Q .normal ⟨#[c0, c1, .slice t1 n1 m1, .slice t2 n2 m2, .int .i64 day, c5, c6, c7, c8, c9, u10, c11, c12, .slice a13 n13 m13, .slice a14 n14 m14, c15, c16, u17, c18, u19, c20, u21, u22, u23, u24, u25, u26, u27, c28, u29, u30, u31, u32, u33, u34, u35, u36, u37, u38, u39, c40, u41, u42, u43, u44, u45, u46, u47, c48, u49, u50, u51, u52, u53, c54, c55, c56, c57, c58, c59, c60, c61, c62, c63, c64, c65, c66, c67, c68, c69, c70, c71, c72, c73, c74, c75, c76, c77, c78, c79, c80, c81, c82, c83, c84, c85, c86, c87, c88, c89, c90, c91, c92, c93, c94, c95, c96, c97, c98, c99, c100, c101, c102, c103, c104, c105, c106, .slice (some ⟨L, 0, none⟩) 3 3, .int .i64 3, u109, u110, u111, u112, u113, u114, u115, u116, u117, u118, u119, u120, u121, u122, u123, u124, u125, u126, u127, u128, u129, u130, u131, u132, u133, u134, u135, u136, u137, u138, u139, u140, u141, u142, u143, u144, u145, u146, u147, u148, u149, u150, u151, u152, u153, u154, u155, u156, u157, u158, u159, u160, u161, u162, u163, u164, u165, u166, u167, u168, u169, u170, u171, u172, u173, u174, u175, u176, u177, u178, u179, u180, u181, u182, u183, u184, u185, u186, u187, u188, u189, u190, u191, u192, u193, u194, u195, u196, u197, u198, u199, u200, u201, u202, u203, u204, u205, u206, u207, u208, u209, u210, u211, u212, u213, u214, u215, u216, u217, u218, u219, u220, u221, u222, u223, u224, u225, u226, u227, u228, u229, u230, u231, u232, u233, u234, u235, u236, u237, u238, u239, u240, u241, u242, u243, u244, u245, u246, u247, u248, u249, u250, u251, u252, u253, u254, u255, u256, u257, u258, u259, u260, u261, u262, u263, u264, u265, u266, u267, u268, u269, u270, u271, u272, u273, u274, u275, u276, u277, u278, u279, u280, u281, u282, u283, u284, u285, u286, u287, u288, u289, u290, u291, u292, u293, u294, u295, u296, u297, u298, u299, u300, u301, u302, u303, u304, u305, u306, u307, u308, u309, u310, u311, u312, u313, u314, u315, u316, u317, u318, u319, u320, u321, u322, u323, u324, u325, u326, u327, u328, u329, u330, u331, u332, u333, u334, u335, u336, u337, u338, c339], []⟩ wx) :
    Code.wp Try.prog blk2 Q ⟨#[c0, c1, .slice t1 n1 m1, .slice t2 n2 m2, .int .i64 day, c5, c6, c7, c8, c9, c10, c11, c12, .slice a13 n13 m13, .slice a14 n14 m14, c15, c16, c17, c18, c19, c20, c21, c22, c23, c24, c25, c26, c27, c28, c29, c30, c31, c32, c33, c34, c35, c36, c37, c38, c39, c40, c41, c42, c43, c44, c45, c46, c47, c48, c49, c50, c51, c52, c53, c54, c55, c56, c57, c58, c59, c60, c61, c62, c63, c64, c65, c66, c67, c68, c69, c70, c71, c72, c73, c74, c75, c76, c77, c78, c79, c80, c81, c82, c83, c84, c85, c86, c87, c88, c89, c90, c91, c92, c93, c94, c95, c96, c97, c98, c99, c100, c101, c102, c103, c104, c105, c106, .slice (some ⟨L, 0, none⟩) 3 3, .int .i64 3, .int .i64 0, c110, c111, c112, c113, c114, c115, c116, c117, c118, c119, c120, c121, c122, c123, c124, c125, c126, c127, c128, c129, c130, c131, c132, c133, c134, c135, c136, c137, c138, c139, c140, c141, c142, c143, c144, c145, c146, c147, c148, c149, c150, c151, c152, c153, c154, c155, c156, c157, c158, c159, c160, c161, c162, c163, c164, c165, c166, c167, c168, c169, c170, c171, c172, c173, c174, c175, c176, c177, c178, c179, c180, c181, c182, c183, c184, c185, c186, c187, c188, c189, c190, c191, c192, c193, c194, c195, c196, c197, c198, c199, c200, c201, c202, c203, c204, c205, c206, c207, c208, c209, c210, c211, c212, c213, c214, c215, c216, c217, c218, c219, c220, c221, c222, c223, c224, c225, c226, c227, c228, c229, c230, c231, c232, c233, c234, c235, c236, c237, c238, c239, c240, c241, c242, c243, c244, c245, c246, c247, c248, c249, c250, c251, c252, c253, c254, c255, c256, c257, c258, c259, c260, c261, c262, c263, c264, c265, c266, c267, c268, c269, c270, c271, c272, c273, c274, c275, c276, c277, c278, c279, c280, c281, c282, c283, c284, c285, c286, c287, c288, c289, c290, c291, c292, c293, c294, c295, c296, c297, c298, c299, c300, c301, c302, c303, c304, c305, c306, c307, c308, c309, c310, c311, c312, c313, c314, c315, c316, c317, c318, c319, c320, c321, c322, c323, c324, c325, c326, c327, c328, c329, c330, c331, c332, c333, c334, c335, c336, c337, c338, c339], []⟩ W6 := by
  conv => arg 2; whnf
  go_wp2_with fail
  try dsimp only
  go_loopg [109] 3 (fun gg s109 wr => ∃ k : Nat, k ≤ 3 ∧ 3 - k ≤ gg ∧ s109 = .int .i64 k ∧ Aside (Below W6.heap.size W6 wr))
  case atStart => exact ⟨0, by omega, by omega, rfl, Below.refl _ _⟩
  case round =>
    obtain ⟨j, hj, hgj, rfl, BJ⟩ := hrel
    by_cases hltj : j < 3
    · have hltzj : (j : Int) < 3 := by omega
      have hnej : (0 : Int) ≤ (j : Int) := by omega
      obtain ⟨cj, xa, xn, xc, ya, yn, yc, za, zn, zc, hv, hcal, hL, k0, k1, k2⟩ := HEL.out j hltj
      have k0 := (BJ.out.cell (p := ⟨L, j * 3, none⟩) hL).trans k0
      have k1 := (BJ.out.cell (p := ⟨L, j * 3 + 1, none⟩) hL).trans k1
      have k2 := (BJ.out.cell (p := ⟨L, j * 3 + 2, none⟩) hL).trans k2
      have bx := Below.alloc1 wr (.cells #[.slice xa xn xc, .slice ya yn yc, .slice za zn zc] 25)
      have HJX := Lib.hid (BJ.out.trans (bx.mono BJ.out.size))
      have hboth := both_of (hcal.below HJX.out)
      rw [hv] at hboth
      have HO := Lib.hid hboth
      have HLX := Lib.hid (HLS.out.below HJX.out)
      have HBX := Lib.hid (fun (W : World) (hW : Below (wr.alloc (.cells #[.slice xa xn xc, .slice ya yn yc, .slice za zn zc] 25)).heap.size (wr.alloc (.cells #[.slice xa xn xc, .slice ya yn yc, .slice za zn zc] 25)) W) => show W.cell? ⟨wr.heap.size, 0, none⟩ = some (.slice xa xn xc) ∧ W.cell? ⟨wr.heap.size, 1, none⟩ = some (.slice ya yn yc) ∧ W.cell? ⟨wr.heap.size, 2, none⟩ = some (.slice za zn zc) from by
        have hs : wr.heap.size < (wr.alloc (.cells #[.slice xa xn xc, .slice ya yn yc, .slice za zn zc] 25)).heap.size := by simp
        exact ⟨(hW.cell (p := ⟨wr.heap.size, 0, none⟩) hs).trans (World.cell?_alloc_at _ _ _ _ rfl), (hW.cell (p := ⟨wr.heap.size, 1, none⟩) hs).trans (World.cell?_alloc_at _ _ _ _ rfl), (hW.cell (p := ⟨wr.heap.size, 2, none⟩) hs).trans (World.cell?_alloc_at _ _ _ _ rfl)⟩)
      have HZX := Lib.hid (show (wr.alloc (.cells #[.slice xa xn xc, .slice ya yn yc, .slice za zn zc] 25)).heap.size = wr.heap.size + 1 by simp)
      have ZWl := Lib.hid (lit3_at (wr.alloc (.cells #[.slice xa xn xc, .slice ya yn yc, .slice za zn zc] 25)) 3 (yn : Int) 4)
      rw [HZX.out] at ZWl
      clear bx hboth hv hcal BJ
      go_upto_block 4 with fail
      generalize wr.alloc (.cells #[.slice xa xn xc, .slice ya yn yc, .slice za zn zc] 25) = Wx at *
      generalize wr.heap.size = Bx at *
      have XWl := Lib.hid (Below.alloc1 Wx (.cells #[.int .i64 3, .int .i64 (yn : Int), .int .i64 4] 3))
      generalize Wx.alloc (.cells #[.int .i64 3, .int .i64 (yn : Int), .int .i64 4] 3) = Wl at *
      clear k0 k1 k2 hL
      have HXWl := Lib.hid (fun (W : World) (hW : Below Wl.heap.size Wl W) => show Below Wx.heap.size Wx W from XWl.out.trans (hW.mono XWl.out.size))
      refine all1 HO HBX HZX HXWl ZWl ?_
      intro _ _ _ _ _ _ _ _ _ _ _ _ _ _ w1 hb1
      have XK := Lib.hid (HXWl.out _ hb1)
      clear hb1 HXWl XWl ZWl
      go_wp2_with fail
      refine (mod_any' day 60 _ HDAY.out (by decide) (by decide)).mono ?_
      rintro e w9 ⟨rfl, rfl⟩
      have hdm1 : 0 ≤ day % 60 ∧ day % 60 < 60 := by omega
      try dsimp only
      go_upto_block 6 with fail
      clear hdm1
      have XWm := Lib.hid (XK.out.trans ((Below.alloc1 w9 (.cells #[.int .i64 day, .int .i64 (day % 60 - 2)] 3)).mono (XK.out).size))
      have ZWm := Lib.hid (lit2_at w9 day (day % 60 - 2))
      generalize w9.alloc (.cells #[.int .i64 day, .int .i64 (day % 60 - 2)] 3) = Wm at *
      generalize w9.heap.size = LWm at *
      have HXWm := Lib.hid (fun (W : World) (hW : Below Wm.heap.size Wm W) => show Below Wx.heap.size Wx W from XWm.out.trans (hW.mono XWm.out.size))
      refine all2 HO HBX HZX HLX HXWm ZWm ?_
      intro _ _ _ _ _ _ _ _ _ _ _ _ _ _ _ _ _ _ _ _ _ _ _ _ _ _ _ _ _ _ _ _ _ _ _ _ _ _ _ _ _ _ _ _ _ _ _ _ _ _ _ _ _ _ _ _ _ _ _ _ _ _ _ _ _ _ _ _ _ _ _ _ _ _ _ _ _ _ _ _ _ _ _ _ _ _ _ _ _ _ _ _ _ _ _ _ _ _ _ _ _ _ _ _ _ _ _ _ _ _ _ _ _ _ _ _ _ _ _ _ _ _ _ _ _ _ _ _ _ _ _ _ _ _ _ _ _ _ _ _ _ _ _ _ _ _ _ _ _ _ _ _ _ _ _ _ _ _ _ _ _ _ _ _ _ _ _ _ _ _ w2 hb2
      have XQ := Lib.hid (HXWm.out _ hb2)
      clear hb2 HXWm XWm ZWm
      go_upto_block 12 with fail
      have XWp := Lib.hid (XQ.out.trans ((Below.alloc1 w2 (.cells #[.slice a13 n13 m13, .slice a14 n14 m14, .slice t1 n1 m1, .slice t2 n2 m2, .slice a13 n13 m13, .slice t2 n2 m2] 42)).mono (XQ.out).size))
      have ZWp := Lib.hid (lists_at w2 Wx HLX.out.ab HLX.out.td HLX.out.ad)
      generalize w2.alloc (.cells #[.slice a13 n13 m13, .slice a14 n14 m14, .slice t1 n1 m1, .slice t2 n2 m2, .slice a13 n13 m13, .slice t2 n2 m2] 42) = Wp at *
      generalize w2.heap.size = LWp at *
      have HXWp := Lib.hid (fun (W : World) (hW : Below Wp.heap.size Wp W) => show Below Wx.heap.size Wx W from XWp.out.trans (hW.mono XWp.out.size))
      refine all5 HO HBX HZX HXWp ZWp ?_
      intro _ _ _ _ _ _ _ _ _ _ _ _ _ _ _ _ _ _ _ _ _ _ _ _ _ _ _ _ _ _ _ _ _ _ _ _ _ _ _ _ _ _ _ _ _ _ _ _ _ _ _ _ _ w5 hb5
      have BJ2 := Lib.hid (HJX.out.trans ((HXWp.out _ hb5).mono HJX.out.size))
      clear hb5
      go_wp2_with fail
      go_roundg (3 - (j + 1))
      case measure => omega
      case rel => exact ⟨j + 1, by omega, by omega, by go_num, BJ2.out⟩
    · have hltzj : ¬ (j : Int) < 3 := by omega
      go_wp2_with fail
      all_goals exact BJ.out
end Go.Proofs.Ytpbahffkhpfakaa

namespace Go.Proofs.Ytpbahffkhpfakaa
open Go.RowKit
set_option linter.unusedSimpArgs false
set_option linter.unusedVariables false

set_option maxRecDepth 100000 in
set_option maxHeartbeats 16000000 in
theorem allLaw (a0 : Option Addr) (len0 cap0 : Nat) (c0 : Cal) (v1 v2 : Value) (ts ds : List Int) (day : Int) (w : World) (hr : RowAt w w.heap.size a0 len0) (hm : (len0 : Int) ≤ 9223372036854775807) (h : CalAt w c0) (h1 : IntsAt w v1 ts) (h2 : IntsAt w v2 ds) (n1 : NilOk v1) (hday : -9223372036854775808 ≤ day ∧ day ≤ 9223372036854775807) :
    Calls Try.prog 3 #[.slice a0 len0 cap0, c0.val, v1, v2, .int .i64 day] w fun e w' => e = .returned (.bool true) ∧ Below w.heap.size w w' := by
  have HL := Lib.hid (fun w1 => light_any a0 len0 cap0 w1 hm)
  obtain ⟨wa, wc, ta, tc, ra, rc, hS⟩ := h.shape
  have H0 := Lib.hid (hS.box h)
  have hd := hS.cells H0.out
  have HR := Lib.hid hr
  have H1 := Lib.hid h1
  have H2 := Lib.hid h2
  have N1 := Lib.hid n1
  obtain ⟨t1, m1, rfl⟩ := h1.form
  obtain ⟨t2, m2, rfl⟩ := h2.form
  have HDAY := Lib.hid hday
  rw [hS.val]
  have HS := Lib.hid (And.intro hS.e1 (And.intro hS.e2 hS.e3))
  have HV0 := Lib.hid hS.val
  have HCAL := Lib.hid h
  clear hS h h1 h2 n1 hr hm hday
  generalize hwn : c0.wins.length = wn at *
  generalize htn : c0.team.length = tn at *
  generalize hrn : c0.room.length = rn at *
  generalize ts.length = n1 at *
  generalize ds.length = n2 at *
  clear hwn htn hrn
  go_enter Try.func3, Try.ntmps3
  go_wp2_with fail
  generalize w.alloc (.cells #[.slice wa wn wc, .slice ta tn tc, .slice ra rn rc] 25) = W0 at *
  refine (HL.out _).mono ?_
  rintro e w1 ⟨rfl, rfl⟩
  by_cases hl : len0 ≤ 400
  · rw [decide_eq_true hl]
    have HLL := Lib.hid hl
    clear hl
    by_cases h40 : (40 : Int) < (wn : Int)
    · have hb40 : decide ((40 : Int) < (wn : Int)) = true := decide_eq_true h40
      go_wp2_with fail
      refine (awake_any _).mono ?_
      rintro e w9 ⟨rfl, hb⟩
      have HB := Lib.hid (H0.out.below.trans (hb.mono H0.out.below.size))
      clear hb
      go_wp2_with fail
      go_ret
      exact ⟨rfl, HB.out⟩
    · have hb40 : decide ((40 : Int) < (wn : Int)) = false := decide_eq_false h40
      by_cases h60 : (60 : Int) < wrap64 ((tn : Int) + (rn : Int))
      · have hb60 : decide ((60 : Int) < wrap64 ((tn : Int) + (rn : Int))) = true := decide_eq_true h60
        go_wp2_with fail
        refine (awake_any _).mono ?_
        rintro e w9 ⟨rfl, hb⟩
        have HB := Lib.hid (H0.out.below.trans (hb.mono H0.out.below.size))
        clear hb
        go_wp2_with fail
        go_ret
        exact ⟨rfl, HB.out⟩
      · have hb60 : decide ((60 : Int) < wrap64 ((tn : Int) + (rn : Int))) = false := decide_eq_false h60
        by_cases h90 : (90 : Int) < wrap64 ((n1 : Int) + (n2 : Int))
        · have hb90 : decide ((90 : Int) < wrap64 ((n1 : Int) + (n2 : Int))) = true := decide_eq_true h90
          go_wp2_with fail
          refine (awake_any _).mono ?_
          rintro e w9 ⟨rfl, hb⟩
          have HB := Lib.hid (H0.out.below.trans (hb.mono H0.out.below.size))
          clear hb
          go_wp2_with fail
          go_ret
          exact ⟨rfl, HB.out⟩
        · have hb90 : decide ((90 : Int) < wrap64 ((n1 : Int) + (n2 : Int))) = false := decide_eq_false h90
          go_wp2_with fail
          have HP0 := Lib.hid (show w.heap.size < W0.heap.size from H0.out.hB)
          refine (roll_any a0 len0 cap0 W0 HLL.out (HR.out.up H0.out.below H0.out.below.size)).mono ?_
          rintro e w1 ⟨rfl, hb, hs, hdi⟩
          have HB1 := Lib.hid (H0.out.later hb)
          have HDI := Lib.hid hdi
          have HS1 := Lib.hid hs
          generalize hp : W0.heap.size = p at *
          clear hb hdi hs hp h40 h60 h90 hb40 hb60 hb90 hd HR HLL HL H0
          go_wp2_with fail
          refine (cal_any p 3 w1 HDI.out (by decide)).mono ?_
          rintro e w2 ⟨c, rfl, hD, hdg, hck, hfar⟩
          have hD2 := hdg.dice
          have hps : p < w2.heap.size := by have := hdg.size; have := HS1.out; omega
          obtain ⟨wa2, wc2, ta2, tc2, ra2, rc2, hS2⟩ := (hck.now hD2).shape
          have HS2 := Lib.hid hS2
          have HV2 := Lib.hid hS2.val
          have HD := Lib.hid hD
          have HPS := Lib.hid hps
          have HDG := Lib.hid hdg
          have HFAR := Lib.hid (hfar.later (p := p) (by have := HS1.out; omega) (Dg.refl hD2))
          have D3 := Lib.hid ((Dg.refl hD2).alloc (.cells #[.slice wa2 c.wins.length wc2, .slice ta2 c.team.length tc2, .slice ra2 c.room.length rc2] 25))
          have HIN := Lib.hid (fun (W : World) (hk : Dg p (w2.alloc (.cells #[.slice wa2 c.wins.length wc2, .slice ta2 c.team.length tc2, .slice ra2 c.room.length rc2] 25)) W) => show VarAt W w2.heap.size (.slice wa2 c.wins.length wc2) (.slice ta2 c.team.length tc2) (.slice ra2 c.room.length rc2) ∧ CalAt W c from by
            have hi := kept_in (c := c) 25 hck hps hD2 (by rw [hS2.e1, hS2.e2, hS2.e3]; exact hk)
            exact ⟨⟨by rw [← hS2.e1]; exact hi.d0, by rw [← hS2.e2]; exact hi.d1, by rw [← hS2.e3]; exact hi.d2⟩, hi.cal⟩)
          rw [hS2.val]
          clear hD hdg hck hfar hD2 hS2
          go_wp2_with fail
          generalize hBc : w2.heap.size = Bc at *
          generalize w2.alloc (.cells #[.slice wa2 c.wins.length wc2, .slice ta2 c.team.length tc2, .slice ra2 c.room.length rc2] 25) = W3 at *
          refine (next_any p 6 W3 D3.out.dice (by decide) (by decide)).mono ?_
          rintro e w4 ⟨⟨k0, hk0, rfl⟩, hk⟩
          have D4 := Lib.hid (Dg.refl hk.dg.dice)
          have D24 := Lib.hid (D3.out.trans hk.dg)
          have HIN4 := Lib.hid (fun (W : World) (hW : Dg p w4 W) => HIN.out W (hk.dg.trans hW))
          have HW4 := Lib.hid (show p < w4.heap.size by have := D24.out.size; rw [hBc] at this; omega)
          have HK0 := Lib.hid hk0
          clear hk hk0 HIN D3 hBc hps
          go_wp2_with fail
          go_loopg [13, 14, 15] k0 (fun gg s13 s14 s15 wr => ∃ (i : Nat) (la lb : List Int), i ≤ gg ∧ s15 = .int .i64 i ∧ Aside (i + la.length ≤ 5 ∧ lb.length = la.length) ∧ Aside (Dg p w4 wr) ∧ Aside (OwnInts wr w4.heap.size s13 la) ∧ Aside (OwnInts wr w4.heap.size s14 lb) ∧ Aside (Apart s13 s14))
          case atStart => exact ⟨k0, [], [], Nat.le_refl _, rfl, (show k0 + 0 ≤ 5 ∧ 0 = 0 from ⟨by have := HK0.out; omega, rfl⟩), D4.out, World.ownsRow_nil _ _ _ _, World.ownsRow_nil _ _ _ _, Apart.nil _⟩
          case round =>
            obtain ⟨i, la, lb, hi, rfl, HI, DW, O1, O2, AP⟩ := hrel
            by_cases hip : 0 < i
            · have hiz : (0 : Int) < (i : Int) := by omega
              go_wp2_with fail
              refine (next_any p 2 wr DW.out.dice (by decide) (by decide)).mono ?_
              rintro e w5 ⟨⟨t, ht, rfl⟩, hk⟩
              have X1 := Lib.hid (pair_more 22 (DW.out.trans hk.dg) HW4.out (own_dg HW4.out O1.out hk.dg) (own_dg HW4.out O2.out hk.dg) AP.out (t : Int) (by have := HI.out; omega))
              clear hk ht DW O1 O2 AP
              go_wp2_with (at_builtin; refine wl_app rfl _ _ rfl rfl rfl X1.out ?_; rintro va w8 ⟨q1, q2, q3, q4⟩; have E1 := Lib.hid q1; have E2 := Lib.hid q2; have E3 := Lib.hid q3; have E4 := Lib.hid q4; clear q1 q2 q3 q4 X1)
              refine (next_any p 50 w8 E1.out.dice (by decide) (by decide)).mono ?_
              rintro e w9 ⟨⟨d, hd9, rfl⟩, hk⟩
              have X2 := Lib.hid (pair_more 22 (E1.out.trans hk.dg) HW4.out (own_dg HW4.out E3.out hk.dg) (own_dg HW4.out E2.out hk.dg) E4.out.symm (d : Int) (by have := HI.out; omega))
              clear hk hd9 E1 E2 E3 E4
              go_wp2_with (at_builtin; refine wl_app rfl _ _ rfl rfl rfl X2.out ?_; rintro vb wa9 ⟨q1, q2, q3, q4⟩; have E1 := Lib.hid q1; have E2 := Lib.hid q2; have E3 := Lib.hid q3; have E4 := Lib.hid q4; clear q1 q2 q3 q4 X2)
              have HI1 := Lib.hid (congrArg (Value.int .i64) (show wrap64 ((i : Int) - 1) = ((i - 1 : Nat) : Int) by unfold wrap64; have h2 := HI.out; omega))
              go_roundg (i - 1)
              case measure => omega
              case rel => exact ⟨i - 1, _, _, by omega, (by first | exact HI1.out | exact congrArg (Value.int .i64) (by omega)), (show i - 1 + (la ++ [(t : Int)]).length ≤ 5 ∧ (lb ++ [(d : Int)]).length = (la ++ [(t : Int)]).length by have := HI.out; simp; omega), E1.out, E3.out, E2.out, E4.out.symm⟩
            · have hiz : ¬ (0 : Int) < (i : Int) := by omega
              go_wp2_with fail
              have HPW := Lib.hid (show p < wr.heap.size from DW.out.dice.1)
              have HNA := Lib.hid (show NilOk u13 from (reg_of DW.out.size O1.out O2.out AP.out).nilA)
              have HBW := Lib.hid (fun (W : World) (hW : Dg p wr W) => show Below p w1 W from (((HDG.out.trans D24.out).trans DW.out).trans hW).below (Nat.le_refl _) (by have := HS1.out; omega))
              have HVAR := HIN4.out wr DW.out
              have HSK := Lib.hid (fun (W : World) (hW : Dg p wr W) => show (W.cell? ⟨Bc, 0, none⟩ = some (.slice wa2 c.wins.length wc2) ∧ W.cell? ⟨Bc, 1, none⟩ = some (.slice ta2 c.team.length tc2) ∧ W.cell? ⟨Bc, 2, none⟩ = some (.slice ra2 c.room.length rc2)) ∧ W.cell? ⟨w.heap.size, 0, none⟩ = some (.slice wa wn wc) ∧ W.cell? ⟨w.heap.size, 1, none⟩ = some (.slice ta tn tc) ∧ W.cell? ⟨w.heap.size, 2, none⟩ = some (.slice ra rn rc) from by
                have hb := HBW.out W hW
                have hk := fun o => hb.cell (p := ⟨w.heap.size, o, none⟩) HP0.out
                exact ⟨(HIN4.out W (DW.out.trans hW)).1, by rw [← HS.out.1]; exact (hk 0).trans HB1.out.d0, by rw [← HS.out.2.1]; exact (hk 1).trans HB1.out.d1, by rw [← HS.out.2.2]; exact (hk 2).trans HB1.out.d2⟩)
              have HODD := Lib.hid (fun (W : World) (hW : Dg p wr W) => show Calls Try.prog 13 #[.pointer (some ⟨p, 0, none⟩), .agg #[.slice wa2 c.wins.length wc2, .slice ta2 c.team.length tc2, .slice ra2 c.room.length rc2]] W fun e w' => ∃ c', e = .returned c'.val ∧ CalAt w' c' ∧ Dg p W w' from by
                have h := odd_any p w1.heap.size c W hW.dice (HFAR.out.later (by have := HS1.out; omega) ((D24.out.trans DW.out).trans hW)) (by have := HS1.out; omega) HD.out
                rw [HS2.out.val] at h
                exact h)
              have D0 := Lib.hid (Dg.refl DW.out.dice).drew
              generalize c.wins.length = n3 at *
              generalize c.team.length = n4 at *
              generalize c.room.length = n5 at *
              clear HVAR
              go_region_held3 (fun W => (W.cell? ⟨Bc, 0, none⟩ = some (.slice wa2 n3 wc2) ∧ W.cell? ⟨Bc, 1, none⟩ = some (.slice ta2 n4 tc2) ∧ W.cell? ⟨Bc, 2, none⟩ = some (.slice ra2 n5 rc2)) ∧ W.cell? ⟨w.heap.size, 0, none⟩ = some (.slice wa wn wc) ∧ W.cell? ⟨w.heap.size, 1, none⟩ = some (.slice ta tn tc) ∧ W.cell? ⟨w.heap.size, 2, none⟩ = some (.slice ra rn rc)) (first | exact HSK.out _ D0.out | exact HSK.out _ D5.out | exact HSK.out _ (D5.out.alloc _))
                (first | (go_simp; go_at_call 13; refine (HODD.out _ D0.out).mono ?_; rintro e w5 ⟨c2, rfl, hc2, hdg5⟩; obtain ⟨xa, xc, ya, yc, za, zc, hS5⟩ := hc2.shape; rw [hS5.val]; have D5 := Lib.hid (D0.out.trans hdg5); have HC5 := Lib.hid hc2; have HV5 := Lib.hid hS5.val; clear hc2 hdg5 hS5))
              generalize c2.wins.length = xn at *
              generalize c2.team.length = yn at *
              generalize c2.room.length = zn at *
              have D6 := Lib.hid (D5.out.alloc (.cells #[.slice wa2 n3 wc2, .slice ta2 n4 tc2, .slice ra2 n5 rc2, .slice xa xn xc, .slice ya yn yc, .slice za zn zc, .slice wa wn wc, .slice ta tn tc, .slice ra rn rc] 25))
              have b6 := Below.alloc1 w5 (.cells #[.slice wa2 n3 wc2, .slice ta2 n4 tc2, .slice ra2 n5 rc2, .slice xa xn xc, .slice ya yn yc, .slice za zn zc, .slice wa wn wc, .slice ta tn tc, .slice ra rn rc] 25)
              have hbw6 := (HB1.out.below.trans ((HBW.out _ D6.out).mono (Nat.le_of_lt HP0.out)))
              have HEL := Lib.hid (show ∀ i, i < 3 → El (w5.alloc (.cells #[.slice wa2 n3 wc2, .slice ta2 n4 tc2, .slice ra2 n5 rc2, .slice xa xn xc, .slice ya yn yc, .slice za zn zc, .slice wa wn wc, .slice ta tn tc, .slice ra rn rc] 25)) w5.heap.size (i * 3) from fun i hi => by
                have hsz : w5.heap.size < (w5.alloc (.cells #[.slice wa2 n3 wc2, .slice ta2 n4 tc2, .slice ra2 n5 rc2, .slice xa xn xc, .slice ya yn yc, .slice za zn zc, .slice wa wn wc, .slice ta tn tc, .slice ra rn rc] 25)).heap.size := by simp
                match i, hi with
                | 0, _ => exact ⟨c, _, _, _, _, _, _, _, _, _, HV2.out, (HIN4.out _ (DW.out.trans D6.out)).2, hsz, World.cell?_alloc_at _ _ _ _ rfl, World.cell?_alloc_at _ _ _ _ rfl, World.cell?_alloc_at _ _ _ _ rfl⟩
                | 1, _ => exact ⟨c2, _, _, _, _, _, _, _, _, _, HV5.out, HC5.out.below b6, hsz, World.cell?_alloc_at _ _ _ _ rfl, World.cell?_alloc_at _ _ _ _ rfl, World.cell?_alloc_at _ _ _ _ rfl⟩
                | 2, _ => exact ⟨c0, _, _, _, _, _, _, _, _, _, HV0.out, HCAL.out.below hbw6, hsz, World.cell?_alloc_at _ _ _ _ rfl, World.cell?_alloc_at _ _ _ _ rfl, World.cell?_alloc_at _ _ _ _ rfl⟩)
              have o1 : OwnInts (w5.alloc (.cells #[.slice wa2 n3 wc2, .slice ta2 n4 tc2, .slice ra2 n5 rc2, .slice xa xn xc, .slice ya yn yc, .slice za zn zc, .slice wa wn wc, .slice ta tn tc, .slice ra rn rc] 25)) w4.heap.size u13 la := own_dg HW4.out O1.out D6.out
              have o2 : OwnInts (w5.alloc (.cells #[.slice wa2 n3 wc2, .slice ta2 n4 tc2, .slice ra2 n5 rc2, .slice xa xn xc, .slice ya yn yc, .slice za zn zc, .slice wa wn wc, .slice ta tn tc, .slice ra rn rc] 25)) w4.heap.size u14 lb := own_dg HW4.out O2.out D6.out
              have HLS := Lib.hid (show Four4 (w5.alloc (.cells #[.slice wa2 n3 wc2, .slice ta2 n4 tc2, .slice ra2 n5 rc2, .slice xa xn xc, .slice ya yn yc, .slice za zn zc, .slice wa wn wc, .slice ta tn tc, .slice ra rn rc] 25)) u13 u14 (.slice t1 n1 m1) (.slice t2 n2 m2) from
                ⟨⟨la, lb, o1.at (by have := HI.out; omega), o2.at (by have := HI.out; omega), HNA.out⟩, ⟨ts, ds, H1.out.below hbw6, H2.out.below hbw6, N1.out⟩, ⟨[], [], IntsAt.nil _, IntsAt.nil _, (fun n c e => by simp only [Value.slice.injEq] at e; omega)⟩, ⟨la, ds, o1.at (by have := HI.out; omega), H2.out.below hbw6, HNA.out⟩⟩)
              have HBW6 := Lib.hid hbw6
              obtain ⟨a13, m13, e13⟩ := OwnInts.form o1
              obtain ⟨a14, m14, e14⟩ := OwnInts.form o2
              subst e13 e14
              clear o1 o2 b6 hbw6 D6 D5 HC5 HV5 HV2 HV0 HS2 HODD HSK HBW HCAL HIN4 HFAR HDG D24 D4 DW O1 O2 AP HNA HB1 H1 H2 N1 HD HI
              generalize w5.alloc (.cells #[.slice wa2 n3 wc2, .slice ta2 n4 tc2, .slice ra2 n5 rc2, .slice xa xn xc, .slice ya yn yc, .slice za zn zc, .slice wa wn wc, .slice ta tn tc, .slice ra rn rc] 25) = W6 at *
              generalize w5.heap.size = L at *
              generalize la.length = n13 at *
              generalize lb.length = n14 at *
              go_upto_block 2 with fail
              refine all0 HEL HLS HDAY ?_
              intro _ _ _ _ _ _ _ _ _ _ _ _ _ _ _ _ _ _ _ _ _ _ _ _ _ _ _ _ _ _ _ _ _ _ _ _ _ _ _ _ _ _ _ _ _ _ _ _ _ _ _ _ _ _ _ _ _ _ _ _ _ _ _ _ _ _ _ _ _ _ _ _ _ _ _ _ _ _ _ _ _ _ _ _ _ _ _ _ _ _ _ _ _ _ _ _ _ _ _ _ _ _ _ _ _ _ _ _ _ _ _ _ _ _ _ _ _ _ _ _ _ _ _ _ _ _ _ _ _ _ _ _ _ _ _ _ _ _ _ _ _ _ _ _ _ _ _ _ _ _ _ _ _ _ _ _ _ _ _ _ _ _ _ _ _ _ _ _ _ _ _ _ _ _ _ _ _ _ _ _ _ _ _ _ _ _ _ _ _ _ _ _ _ _ _ _ _ _ _ _ _ _ _ _ _ _ _ _ _ _ _ _ _ _ _ _ _ _ _ _ _ _ _ _ _ _ _ _ _ _ _ _ _ _ _ _ _ _ _ _ _ _ _ _ _ _ _ _ _ _ _ _ _ _ _ _ _ _ _ _ _ _ _ wx hbx
              have BX := Lib.hid (HBW6.out.trans (hbx.mono HBW6.out.size))
              clear hbx
              go_wp2_with fail
              refine (awake_any _).mono ?_
              rintro e w9 ⟨rfl, hb⟩
              have BZ := Lib.hid (BX.out.trans (hb.mono BX.out.size))
              clear hb
              go_wp2_with fail
              go_ret
              exact ⟨rfl, BZ.out⟩
  · rw [decide_eq_false hl]
    clear hl
    go_wp2_with fail
    refine (awake_any _).mono ?_
    rintro e w9 ⟨rfl, hb⟩
    have HB := Lib.hid (H0.out.below.trans (hb.mono H0.out.below.size))
    clear hb
    go_wp2_with fail
    go_ret
    exact ⟨rfl, HB.out⟩
end Go.Proofs.Ytpbahffkhpfakaa


/-
  Walks: region 10 of the fixed examples, in segments.
-/
import Derived.Test.YtaafckefeejjpaaGreatNK
namespace Go.Proofs.YtaafckefeejjpaaGreat
open Go.RowKit Go.Sort
set_option linter.unusedVariables false
attribute [local go_sem ↓] Go.wp_at_zero Go.wp_at_succ

noncomputable def reg10 : Code := ((Tryz.f33.body.bind (codeReg 10)).getD .skip)
def codeOps : Code → Array Oper
  | .region _ ops _ => ops
  | _ => #[]
theorem wpAnyH_listed {P : Program} {md : Region.Mode} {ops : Array Oper} {Q : Exit → Act → World → Prop} {S : World → Prop} {fuel : Nat} {L L' : Array Bool} {a : Act} {w : World} (h : L = L') (hh : wpAnyH P md ops Q S fuel L' a w) : wpAnyH P md ops Q S fuel L a w := by
  rw [h]; exact hh
set_option maxRecDepth 1000000 in
set_option maxHeartbeats 16000000 in
theorem reg10_5 (w : World) (n0 n1 n2 n3 n4 n5 n6 k9 k10 : Nat) (s0 s1 s7 s8 s11 s12 s13 s14 s15 s16 s17 s18 s19 s20 s21 s22 s23 s24 s25 s26 s27 s28 s29 s30 s31 s32 s33 s34 s35 s36 s37 s38 s39 s40 s41 s42 s43 s44 s45 s46 s47 s48 s49 s50 s51 s52 s53 s54 s55 s56 s57 s58 s59 s60 s61 s62 s63 s64 s65 s66 s67 s68 s69 s70 s71 s72 s73 s74 s75 s76 s77 s78 s79 s80 s81 s82 s83 s84 s85 s132 s133 s134 s135 s136 s137 s138 s139 s140 s141 s142 s143 s144 s145 s146 s147 s148 s149 s150 s151 s152 s153 s154 s155 s156 s157 s158 s159 s160 s161 s162 s163 s164 s165 s166 s167 s168 s169 s170 s171 s172 s173 s174 s175 s176 s177 s178 s179 s180 s181 s182 s183 s184 s185 s186 s187 s188 s189 s190 s191 s192 s193 s194 s195 s196 s197 : Value) (Q : Exit → Act → World → Prop) (hQ : ∀ (u86 u87 u88 u89 u90 u91 u92 u93 u94 u95 u96 u97 u98 u99 u100 u101 u102 u103 u104 u105 u106 u107 u108 u109 u110 u111 u112 u113 u114 u115 u116 u117 u118 u119 u120 u121 u122 u123 u124 u125 u126 u127 u128 u129 u130 u131 : Value) (wx : World), San2 w n0 n1 n2 n3 n4 n5 n6 k9 k10 wx → Q .normal ⟨#[s0, s1, .pointer (some ⟨n1, 0, none⟩), .pointer (some ⟨n2, 0, none⟩), .pointer (some ⟨n3, 0, none⟩), .pointer (some ⟨n4, 0, none⟩), .pointer (some ⟨n5, 0, none⟩), s7, s8, .pointer (some ⟨k9, 0, none⟩), .pointer (some ⟨k10, 0, none⟩), .bool true, s12, s13, s14, s15, s16, s17, s18, s19, s20, s21, s22, s23, s24, s25, s26, s27, s28, s29, s30, s31, s32, s33, s34, s35, s36, s37, s38, s39, s40, s41, s42, s43, s44, s45, s46, s47, s48, s49, s50, s51, s52, s53, s54, s55, s56, s57, s58, s59, s60, s61, s62, s63, s64, s65, s66, s67, s68, s69, s70, s71, s72, s73, s74, s75, s76, s77, s78, s79, s80, s81, s82, s83, s84, s85, u86, u87, u88, u89, u90, u91, u92, u93, u94, u95, u96, u97, u98, u99, u100, u101, u102, u103, u104, u105, u106, u107, u108, u109, u110, u111, u112, u113, u114, u115, u116, u117, u118, u119, u120, u121, u122, u123, u124, u125, u126, u127, u128, u129, u130, u131, s132, s133, s134, s135, s136, s137, s138, s139, s140, s141, s142, s143, s144, s145, s146, s147, s148, s149, s150, s151, s152, s153, s154, s155, s156, s157, s158, s159, s160, s161, s162, s163, s164, s165, s166, s167, s168, s169, s170, s171, s172, s173, s174, s175, s176, s177, s178, s179, s180, s181, s182, s183, s184, s185, s186, s187, s188, s189, s190, s191, s192, s193, s194, s195, s196, s197], []⟩ wx)
    (s86 s87 s88 s89 s90 s91 s92 s93 s94 s95 s96 s97 s98 s99 s100 s101 s102 s103 s104 s105 s106 s107 s108 s109 s110 s111 s112 s113 s114 s115 s116 s117 s118 s119 s120 s121 s122 s123 s124 s125 s127 s128 s129 s130 s131 : Value) (wx : World) (hHeld : San2 w n0 n1 n2 n3 n4 n5 n6 k9 k10 wx) :
    wpAnyH Tryz.prog .any (codeOps reg10) (NoPanic Q) (fun wr => San2 w n0 n1 n2 n3 n4 n5 n6 k9 k10 wr) 6 #[true, true, true, true, true, true, true, true, true, true, true, true, true, true, true, true, true, true, true, true, true, true, true, true, true, true, true, true, true, true, true, true, true, true, true, true, true, true, true, true, true, false, false, false, false, false, false] ⟨#[s0, s1, .pointer (some ⟨n1, 0, none⟩), .pointer (some ⟨n2, 0, none⟩), .pointer (some ⟨n3, 0, none⟩), .pointer (some ⟨n4, 0, none⟩), .pointer (some ⟨n5, 0, none⟩), s7, s8, .pointer (some ⟨k9, 0, none⟩), .pointer (some ⟨k10, 0, none⟩), s11, s12, s13, s14, s15, s16, s17, s18, s19, s20, s21, s22, s23, s24, s25, s26, s27, s28, s29, s30, s31, s32, s33, s34, s35, s36, s37, s38, s39, s40, s41, s42, s43, s44, s45, s46, s47, s48, s49, s50, s51, s52, s53, s54, s55, s56, s57, s58, s59, s60, s61, s62, s63, s64, s65, s66, s67, s68, s69, s70, s71, s72, s73, s74, s75, s76, s77, s78, s79, s80, s81, s82, s83, s84, s85, s86, s87, s88, s89, s90, s91, s92, s93, s94, s95, s96, s97, s98, s99, s100, s101, s102, s103, s104, s105, s106, s107, s108, s109, s110, s111, s112, s113, s114, s115, s116, s117, s118, s119, s120, s121, s122, s123, s124, s125, .bool true, s127, s128, s129, s130, s131, s132, s133, s134, s135, s136, s137, s138, s139, s140, s141, s142, s143, s144, s145, s146, s147, s148, s149, s150, s151, s152, s153, s154, s155, s156, s157, s158, s159, s160, s161, s162, s163, s164, s165, s166, s167, s168, s169, s170, s171, s172, s173, s174, s175, s176, s177, s178, s179, s180, s181, s182, s183, s184, s185, s186, s187, s188, s189, s190, s191, s192, s193, s194, s195, s196, s197], []⟩ wx := by
  have HQ := Lib.hid hQ
  clear hQ
  conv => arg 3; arg 1; whnf
  dsimp only [codeOps]
  have p0 := fun wr (h : San2 w n0 n1 n2 n3 n4 n5 n6 k9 k10 wr) => h.s.cp.1
  have p1 := fun wr (h : San2 w n0 n1 n2 n3 n4 n5 n6 k9 k10 wr) => h.s.cp.2.1
  have p2 := fun wr (h : San2 w n0 n1 n2 n3 n4 n5 n6 k9 k10 wr) => h.s.cp.2.2.1
  have p3 := fun wr (h : San2 w n0 n1 n2 n3 n4 n5 n6 k9 k10 wr) => h.s.cp.2.2.2.1
  have p4 := fun wr (h : San2 w n0 n1 n2 n3 n4 n5 n6 k9 k10 wr) => h.s.cp.2.2.2.2.1
  have p5 := fun wr (h : San2 w n0 n1 n2 n3 n4 n5 n6 k9 k10 wr) => h.s.cp.2.2.2.2.2.1
  have p6 := fun wr (h : San2 w n0 n1 n2 n3 n4 n5 n6 k9 k10 wr) => h.s.cp.2.2.2.2.2.2.1
  have p7 := fun wr (h : San2 w n0 n1 n2 n3 n4 n5 n6 k9 k10 wr) => h.s.cp.2.2.2.2.2.2.2
  have v0 := fun wr (h : San2 w n0 n1 n2 n3 n4 n5 n6 k9 k10 wr) => h.s.cv.1
  have v1 := fun wr (h : San2 w n0 n1 n2 n3 n4 n5 n6 k9 k10 wr) => h.s.cv.2.1
  have v2 := fun wr (h : San2 w n0 n1 n2 n3 n4 n5 n6 k9 k10 wr) => h.s.cv.2.2.1
  have v3 := fun wr (h : San2 w n0 n1 n2 n3 n4 n5 n6 k9 k10 wr) => h.s.cv.2.2.2.1
  have v4 := fun wr (h : San2 w n0 n1 n2 n3 n4 n5 n6 k9 k10 wr) => h.s.cv.2.2.2.2.1
  have v5 := fun wr (h : San2 w n0 n1 n2 n3 n4 n5 n6 k9 k10 wr) => h.s.cv.2.2.2.2.2.1
  have v6 := fun wr (h : San2 w n0 n1 n2 n3 n4 n5 n6 k9 k10 wr) => h.s.cv.2.2.2.2.2.2.1
  have v7 := fun wr (h : San2 w n0 n1 n2 n3 n4 n5 n6 k9 k10 wr) => h.s.cv.2.2.2.2.2.2.2
  have c0 := fun wr (h : San2 w n0 n1 n2 n3 n4 n5 n6 k9 k10 wr) => h.s.cc.1
  have c1 := fun wr (h : San2 w n0 n1 n2 n3 n4 n5 n6 k9 k10 wr) => h.s.cc.2.1
  have c2 := fun wr (h : San2 w n0 n1 n2 n3 n4 n5 n6 k9 k10 wr) => h.s.cc.2.2.1
  have c3 := fun wr (h : San2 w n0 n1 n2 n3 n4 n5 n6 k9 k10 wr) => h.s.cc.2.2.2.1
  have c4 := fun wr (h : San2 w n0 n1 n2 n3 n4 n5 n6 k9 k10 wr) => h.s.cc.2.2.2.2.1
  have c5 := fun wr (h : San2 w n0 n1 n2 n3 n4 n5 n6 k9 k10 wr) => h.s.cc.2.2.2.2.2.1
  have c6 := fun wr (h : San2 w n0 n1 n2 n3 n4 n5 n6 k9 k10 wr) => h.s.cc.2.2.2.2.2.2.1
  have c7 := fun wr (h : San2 w n0 n1 n2 n3 n4 n5 n6 k9 k10 wr) => h.s.cc.2.2.2.2.2.2.2
  have s0 := fun wr (h : San2 w n0 n1 n2 n3 n4 n5 n6 k9 k10 wr) => h.s.cs.1
  have s1 := fun wr (h : San2 w n0 n1 n2 n3 n4 n5 n6 k9 k10 wr) => h.s.cs.2.1
  have s2 := fun wr (h : San2 w n0 n1 n2 n3 n4 n5 n6 k9 k10 wr) => h.s.cs.2.2.1
  have s3 := fun wr (h : San2 w n0 n1 n2 n3 n4 n5 n6 k9 k10 wr) => h.s.cs.2.2.2.1
  have s4 := fun wr (h : San2 w n0 n1 n2 n3 n4 n5 n6 k9 k10 wr) => h.s.cs.2.2.2.2.1
  have s5 := fun wr (h : San2 w n0 n1 n2 n3 n4 n5 n6 k9 k10 wr) => h.s.cs.2.2.2.2.2.1
  have s6 := fun wr (h : San2 w n0 n1 n2 n3 n4 n5 n6 k9 k10 wr) => h.s.cs.2.2.2.2.2.2.1
  have s7 := fun wr (h : San2 w n0 n1 n2 n3 n4 n5 n6 k9 k10 wr) => h.s.cs.2.2.2.2.2.2.2
  have x0 : ∀ wr, San2 w n0 n1 n2 n3 n4 n5 n6 k9 k10 wr → wr.cell? ⟨k9, 0, none⟩ = some (.string ⟨#[97, 47]⟩) := fun wr h => h.a.c0 0 _ rfl
  have x1 : ∀ wr, San2 w n0 n1 n2 n3 n4 n5 n6 k9 k10 wr → wr.cell? ⟨k9, 1, none⟩ = some (.string ⟨#[97, 48]⟩) := fun wr h => h.a.c0 1 _ rfl
  have y0 : ∀ wr, San2 w n0 n1 n2 n3 n4 n5 n6 k9 k10 wr → wr.cell? ⟨k10, 0, none⟩ = some (.string ⟨#[98, 47]⟩) := fun wr h => h.b.c0 0 _ rfl
  have y1 : ∀ wr, San2 w n0 n1 n2 n3 n4 n5 n6 k9 k10 wr → wr.cell? ⟨k10, 1, none⟩ = some (.string ⟨#[98, 48]⟩) := fun wr h => h.b.c0 1 _ rfl
  refine wpAnyH_take (i := 41) (oi := _) (v := ?_) rfl (by kernel_rfl) (by kernel_rfl) (by kernel_rfl) (fun _ _ _ h => h) (Or.inl ⟨by rfl, ?_⟩) (by with_reducible assumption) ?_
  rotate_left
  · intro wt hSw
    go_simp
    all_goals with_reducible rfl
  try simp only [Act.put, List.setIfInBounds_toArray, List.set_cons_zero, List.set_cons_succ]
  refine wpAnyH_ready (rs := [42]) (by kernel_rfl) (by simp) ?_
  refine AllReadyH.cons (o := _) rfl (fun K hK => ?_) AllReadyH.nil
  go_simp
  (go_at_call 42; (with_reducible refine (sc_killsS (San2.s (by assumption))).mono ?_); rintro e wa8 ⟨pks, cks, rfl, hks, hbks, -⟩)
  refine hK.out _ _ (by (first | with_reducible assumption | with_reducible exact San2.below (by with_reducible assumption) (by with_reducible assumption) | with_reducible exact San2.alloc (by with_reducible assumption) _)) (fun hHeld => ?_)
  clear hK K
  try simp only [List.setIfInBounds_toArray, List.set_cons_zero, List.set_cons_succ]
  refine wpAnyH_take (i := 43) (oi := _) (v := ?_) rfl (by kernel_rfl) (by kernel_rfl) (by kernel_rfl) (fun _ _ _ h => h) (Or.inl ⟨by rfl, ?_⟩) (by with_reducible assumption) ?_
  rotate_left
  · intro wt hSw
    go_simp
    all_goals with_reducible rfl
  try simp only [Act.put, List.setIfInBounds_toArray, List.set_cons_zero, List.set_cons_succ]
  refine wpAnyH_take (i := 44) (oi := _) (v := ?_) rfl (by kernel_rfl) (by kernel_rfl) (by kernel_rfl) (fun _ _ _ h => h) (Or.inl ⟨by rfl, ?_⟩) (by with_reducible assumption) ?_
  rotate_left
  · intro wt hSw
    go_simp
    all_goals with_reducible rfl
  try simp only [Act.put, List.setIfInBounds_toArray, List.set_cons_zero, List.set_cons_succ]
  refine wpAnyH_take (i := 45) (oi := _) (v := ?_) rfl (by kernel_rfl) (by kernel_rfl) (by kernel_rfl) (fun _ _ _ h => h) (Or.inl ⟨by rfl, ?_⟩) (by with_reducible assumption) ?_
  rotate_left
  · intro wt hSw
    go_simp
    all_goals with_reducible rfl
  try simp only [Act.put, List.setIfInBounds_toArray, List.set_cons_zero, List.set_cons_succ]
  refine wpAnyH_take (i := 46) (oi := _) (v := ?_) rfl (by kernel_rfl) (by kernel_rfl) (by kernel_rfl) (fun _ _ _ h => h) (Or.inl ⟨by rfl, ?_⟩) (by with_reducible assumption) ?_
  rotate_left
  · intro wt hSw
    go_simp
    all_goals with_reducible rfl
  try simp only [Act.put, List.setIfInBounds_toArray, List.set_cons_zero, List.set_cons_succ]
  refine wpAnyH_done (by kernel_rfl) (NoPanic.normal (HQ.out _ _ _ _ _ _ _ _ _ _ _ _ _ _ _ _ _ _ _ _ _ _ _ _ _ _ _ _ _ _ _ _ _ _ _ _ _ _ _ _ _ _ _ _ _ _ _ (by with_reducible assumption))) _
set_option maxRecDepth 1000000 in
set_option maxHeartbeats 16000000 in
theorem reg10_4 (w : World) (n0 n1 n2 n3 n4 n5 n6 k9 k10 : Nat) (s0 s1 s7 s8 s11 s12 s13 s14 s15 s16 s17 s18 s19 s20 s21 s22 s23 s24 s25 s26 s27 s28 s29 s30 s31 s32 s33 s34 s35 s36 s37 s38 s39 s40 s41 s42 s43 s44 s45 s46 s47 s48 s49 s50 s51 s52 s53 s54 s55 s56 s57 s58 s59 s60 s61 s62 s63 s64 s65 s66 s67 s68 s69 s70 s71 s72 s73 s74 s75 s76 s77 s78 s79 s80 s81 s82 s83 s84 s85 s132 s133 s134 s135 s136 s137 s138 s139 s140 s141 s142 s143 s144 s145 s146 s147 s148 s149 s150 s151 s152 s153 s154 s155 s156 s157 s158 s159 s160 s161 s162 s163 s164 s165 s166 s167 s168 s169 s170 s171 s172 s173 s174 s175 s176 s177 s178 s179 s180 s181 s182 s183 s184 s185 s186 s187 s188 s189 s190 s191 s192 s193 s194 s195 s196 s197 : Value) (Q : Exit → Act → World → Prop) (hQ : ∀ (u86 u87 u88 u89 u90 u91 u92 u93 u94 u95 u96 u97 u98 u99 u100 u101 u102 u103 u104 u105 u106 u107 u108 u109 u110 u111 u112 u113 u114 u115 u116 u117 u118 u119 u120 u121 u122 u123 u124 u125 u126 u127 u128 u129 u130 u131 : Value) (wx : World), San2 w n0 n1 n2 n3 n4 n5 n6 k9 k10 wx → Q .normal ⟨#[s0, s1, .pointer (some ⟨n1, 0, none⟩), .pointer (some ⟨n2, 0, none⟩), .pointer (some ⟨n3, 0, none⟩), .pointer (some ⟨n4, 0, none⟩), .pointer (some ⟨n5, 0, none⟩), s7, s8, .pointer (some ⟨k9, 0, none⟩), .pointer (some ⟨k10, 0, none⟩), .bool true, s12, s13, s14, s15, s16, s17, s18, s19, s20, s21, s22, s23, s24, s25, s26, s27, s28, s29, s30, s31, s32, s33, s34, s35, s36, s37, s38, s39, s40, s41, s42, s43, s44, s45, s46, s47, s48, s49, s50, s51, s52, s53, s54, s55, s56, s57, s58, s59, s60, s61, s62, s63, s64, s65, s66, s67, s68, s69, s70, s71, s72, s73, s74, s75, s76, s77, s78, s79, s80, s81, s82, s83, s84, s85, u86, u87, u88, u89, u90, u91, u92, u93, u94, u95, u96, u97, u98, u99, u100, u101, u102, u103, u104, u105, u106, u107, u108, u109, u110, u111, u112, u113, u114, u115, u116, u117, u118, u119, u120, u121, u122, u123, u124, u125, u126, u127, u128, u129, u130, u131, s132, s133, s134, s135, s136, s137, s138, s139, s140, s141, s142, s143, s144, s145, s146, s147, s148, s149, s150, s151, s152, s153, s154, s155, s156, s157, s158, s159, s160, s161, s162, s163, s164, s165, s166, s167, s168, s169, s170, s171, s172, s173, s174, s175, s176, s177, s178, s179, s180, s181, s182, s183, s184, s185, s186, s187, s188, s189, s190, s191, s192, s193, s194, s195, s196, s197], []⟩ wx)
    (s86 s87 s88 s89 s90 s91 s92 s93 s94 s95 s96 s97 s98 s99 s100 s101 s102 s103 s104 s105 s106 s107 s108 s109 s110 s111 s112 s113 s114 s115 s116 s117 s118 s120 s121 s122 s123 s124 s125 s126 s127 s128 s129 s130 s131 : Value) (wx : World) (hHeld : San2 w n0 n1 n2 n3 n4 n5 n6 k9 k10 wx) :
    wpAnyH Tryz.prog .any (codeOps reg10) (NoPanic Q) (fun wr => San2 w n0 n1 n2 n3 n4 n5 n6 k9 k10 wr) 13 #[true, true, true, true, true, true, true, true, true, true, true, true, true, true, true, true, true, true, true, true, true, true, true, true, true, true, true, true, true, true, true, true, true, true, false, false, false, false, false, false, false, false, false, false, false, false, false] ⟨#[s0, s1, .pointer (some ⟨n1, 0, none⟩), .pointer (some ⟨n2, 0, none⟩), .pointer (some ⟨n3, 0, none⟩), .pointer (some ⟨n4, 0, none⟩), .pointer (some ⟨n5, 0, none⟩), s7, s8, .pointer (some ⟨k9, 0, none⟩), .pointer (some ⟨k10, 0, none⟩), s11, s12, s13, s14, s15, s16, s17, s18, s19, s20, s21, s22, s23, s24, s25, s26, s27, s28, s29, s30, s31, s32, s33, s34, s35, s36, s37, s38, s39, s40, s41, s42, s43, s44, s45, s46, s47, s48, s49, s50, s51, s52, s53, s54, s55, s56, s57, s58, s59, s60, s61, s62, s63, s64, s65, s66, s67, s68, s69, s70, s71, s72, s73, s74, s75, s76, s77, s78, s79, s80, s81, s82, s83, s84, s85, s86, s87, s88, s89, s90, s91, s92, s93, s94, s95, s96, s97, s98, s99, s100, s101, s102, s103, s104, s105, s106, s107, s108, s109, s110, s111, s112, s113, s114, s115, s116, s117, s118, .bool true, s120, s121, s122, s123, s124, s125, s126, s127, s128, s129, s130, s131, s132, s133, s134, s135, s136, s137, s138, s139, s140, s141, s142, s143, s144, s145, s146, s147, s148, s149, s150, s151, s152, s153, s154, s155, s156, s157, s158, s159, s160, s161, s162, s163, s164, s165, s166, s167, s168, s169, s170, s171, s172, s173, s174, s175, s176, s177, s178, s179, s180, s181, s182, s183, s184, s185, s186, s187, s188, s189, s190, s191, s192, s193, s194, s195, s196, s197], []⟩ wx := by
  have HN := Lib.hid (reg10_5 w n0 n1 n2 n3 n4 n5 n6 k9 k10 s0 s1 s7 s8 s11 s12 s13 s14 s15 s16 s17 s18 s19 s20 s21 s22 s23 s24 s25 s26 s27 s28 s29 s30 s31 s32 s33 s34 s35 s36 s37 s38 s39 s40 s41 s42 s43 s44 s45 s46 s47 s48 s49 s50 s51 s52 s53 s54 s55 s56 s57 s58 s59 s60 s61 s62 s63 s64 s65 s66 s67 s68 s69 s70 s71 s72 s73 s74 s75 s76 s77 s78 s79 s80 s81 s82 s83 s84 s85 s132 s133 s134 s135 s136 s137 s138 s139 s140 s141 s142 s143 s144 s145 s146 s147 s148 s149 s150 s151 s152 s153 s154 s155 s156 s157 s158 s159 s160 s161 s162 s163 s164 s165 s166 s167 s168 s169 s170 s171 s172 s173 s174 s175 s176 s177 s178 s179 s180 s181 s182 s183 s184 s185 s186 s187 s188 s189 s190 s191 s192 s193 s194 s195 s196 s197 Q hQ)
  clear hQ
  conv => arg 3; arg 1; whnf
  dsimp only [codeOps]
  have p0 := fun wr (h : San2 w n0 n1 n2 n3 n4 n5 n6 k9 k10 wr) => h.s.cp.1
  have p1 := fun wr (h : San2 w n0 n1 n2 n3 n4 n5 n6 k9 k10 wr) => h.s.cp.2.1
  have p2 := fun wr (h : San2 w n0 n1 n2 n3 n4 n5 n6 k9 k10 wr) => h.s.cp.2.2.1
  have p3 := fun wr (h : San2 w n0 n1 n2 n3 n4 n5 n6 k9 k10 wr) => h.s.cp.2.2.2.1
  have p4 := fun wr (h : San2 w n0 n1 n2 n3 n4 n5 n6 k9 k10 wr) => h.s.cp.2.2.2.2.1
  have p5 := fun wr (h : San2 w n0 n1 n2 n3 n4 n5 n6 k9 k10 wr) => h.s.cp.2.2.2.2.2.1
  have p6 := fun wr (h : San2 w n0 n1 n2 n3 n4 n5 n6 k9 k10 wr) => h.s.cp.2.2.2.2.2.2.1
  have p7 := fun wr (h : San2 w n0 n1 n2 n3 n4 n5 n6 k9 k10 wr) => h.s.cp.2.2.2.2.2.2.2
  have v0 := fun wr (h : San2 w n0 n1 n2 n3 n4 n5 n6 k9 k10 wr) => h.s.cv.1
  have v1 := fun wr (h : San2 w n0 n1 n2 n3 n4 n5 n6 k9 k10 wr) => h.s.cv.2.1
  have v2 := fun wr (h : San2 w n0 n1 n2 n3 n4 n5 n6 k9 k10 wr) => h.s.cv.2.2.1
  have v3 := fun wr (h : San2 w n0 n1 n2 n3 n4 n5 n6 k9 k10 wr) => h.s.cv.2.2.2.1
  have v4 := fun wr (h : San2 w n0 n1 n2 n3 n4 n5 n6 k9 k10 wr) => h.s.cv.2.2.2.2.1
  have v5 := fun wr (h : San2 w n0 n1 n2 n3 n4 n5 n6 k9 k10 wr) => h.s.cv.2.2.2.2.2.1
  have v6 := fun wr (h : San2 w n0 n1 n2 n3 n4 n5 n6 k9 k10 wr) => h.s.cv.2.2.2.2.2.2.1
  have v7 := fun wr (h : San2 w n0 n1 n2 n3 n4 n5 n6 k9 k10 wr) => h.s.cv.2.2.2.2.2.2.2
  have c0 := fun wr (h : San2 w n0 n1 n2 n3 n4 n5 n6 k9 k10 wr) => h.s.cc.1
  have c1 := fun wr (h : San2 w n0 n1 n2 n3 n4 n5 n6 k9 k10 wr) => h.s.cc.2.1
  have c2 := fun wr (h : San2 w n0 n1 n2 n3 n4 n5 n6 k9 k10 wr) => h.s.cc.2.2.1
  have c3 := fun wr (h : San2 w n0 n1 n2 n3 n4 n5 n6 k9 k10 wr) => h.s.cc.2.2.2.1
  have c4 := fun wr (h : San2 w n0 n1 n2 n3 n4 n5 n6 k9 k10 wr) => h.s.cc.2.2.2.2.1
  have c5 := fun wr (h : San2 w n0 n1 n2 n3 n4 n5 n6 k9 k10 wr) => h.s.cc.2.2.2.2.2.1
  have c6 := fun wr (h : San2 w n0 n1 n2 n3 n4 n5 n6 k9 k10 wr) => h.s.cc.2.2.2.2.2.2.1
  have c7 := fun wr (h : San2 w n0 n1 n2 n3 n4 n5 n6 k9 k10 wr) => h.s.cc.2.2.2.2.2.2.2
  have s0 := fun wr (h : San2 w n0 n1 n2 n3 n4 n5 n6 k9 k10 wr) => h.s.cs.1
  have s1 := fun wr (h : San2 w n0 n1 n2 n3 n4 n5 n6 k9 k10 wr) => h.s.cs.2.1
  have s2 := fun wr (h : San2 w n0 n1 n2 n3 n4 n5 n6 k9 k10 wr) => h.s.cs.2.2.1
  have s3 := fun wr (h : San2 w n0 n1 n2 n3 n4 n5 n6 k9 k10 wr) => h.s.cs.2.2.2.1
  have s4 := fun wr (h : San2 w n0 n1 n2 n3 n4 n5 n6 k9 k10 wr) => h.s.cs.2.2.2.2.1
  have s5 := fun wr (h : San2 w n0 n1 n2 n3 n4 n5 n6 k9 k10 wr) => h.s.cs.2.2.2.2.2.1
  have s6 := fun wr (h : San2 w n0 n1 n2 n3 n4 n5 n6 k9 k10 wr) => h.s.cs.2.2.2.2.2.2.1
  have s7 := fun wr (h : San2 w n0 n1 n2 n3 n4 n5 n6 k9 k10 wr) => h.s.cs.2.2.2.2.2.2.2
  have x0 : ∀ wr, San2 w n0 n1 n2 n3 n4 n5 n6 k9 k10 wr → wr.cell? ⟨k9, 0, none⟩ = some (.string ⟨#[97, 47]⟩) := fun wr h => h.a.c0 0 _ rfl
  have x1 : ∀ wr, San2 w n0 n1 n2 n3 n4 n5 n6 k9 k10 wr → wr.cell? ⟨k9, 1, none⟩ = some (.string ⟨#[97, 48]⟩) := fun wr h => h.a.c0 1 _ rfl
  have y0 : ∀ wr, San2 w n0 n1 n2 n3 n4 n5 n6 k9 k10 wr → wr.cell? ⟨k10, 0, none⟩ = some (.string ⟨#[98, 47]⟩) := fun wr h => h.b.c0 0 _ rfl
  have y1 : ∀ wr, San2 w n0 n1 n2 n3 n4 n5 n6 k9 k10 wr → wr.cell? ⟨k10, 1, none⟩ = some (.string ⟨#[98, 48]⟩) := fun wr h => h.b.c0 1 _ rfl
  refine wpAnyH_take (i := 34) (oi := _) (v := ?_) rfl (by kernel_rfl) (by kernel_rfl) (by kernel_rfl) (fun _ _ _ h => h) (Or.inl ⟨by rfl, ?_⟩) (by with_reducible assumption) ?_
  rotate_left
  · intro wt hSw
    go_simp
    all_goals with_reducible rfl
  try simp only [Act.put, List.setIfInBounds_toArray, List.set_cons_zero, List.set_cons_succ]
  refine wpAnyH_take (i := 36) (oi := _) (v := ?_) rfl (by kernel_rfl) (by kernel_rfl) (by kernel_rfl) (fun _ _ _ h => h) (Or.inl ⟨by rfl, ?_⟩) (by with_reducible assumption) ?_
  rotate_left
  · intro wt hSw
    go_simp
    all_goals with_reducible rfl
  try simp only [Act.put, List.setIfInBounds_toArray, List.set_cons_zero, List.set_cons_succ]
  refine wpAnyH_ready (rs := [35, 37]) (by kernel_rfl) (by simp) ?_
  refine AllReadyH.cons (o := _) rfl (fun K hK => ?_) (AllReadyH.cons (o := _) rfl (fun K hK => ?_) AllReadyH.nil)
  · go_simp
    (go_at_call 40; (with_reducible refine (sc_readsS (San2.s (by assumption))).mono ?_); rintro e wa7 ⟨prs, crs, rfl, hrs, hbrs, -⟩)
    refine hK.out _ _ (by (first | with_reducible assumption | with_reducible exact San2.below (by with_reducible assumption) (by with_reducible assumption) | with_reducible exact San2.alloc (by with_reducible assumption) _)) (fun hHeld => ?_)
    clear hK K
    try simp only [List.setIfInBounds_toArray, List.set_cons_zero, List.set_cons_succ]
    refine wpAnyH_ready (rs := [37]) (by kernel_rfl) (by simp) ?_
    refine AllReadyH.cons (o := _) rfl (fun K hK => ?_) AllReadyH.nil
    go_simp
    refine hK.out _ _ (by (first | with_reducible assumption | with_reducible exact San2.below (by with_reducible assumption) (by with_reducible assumption) | with_reducible exact San2.alloc (by with_reducible assumption) _)) (fun hHeld => ?_)
    clear hK K
    try simp only [List.setIfInBounds_toArray, List.set_cons_zero, List.set_cons_succ]
    refine wpAnyH_ready (rs := [38]) (by kernel_rfl) (by simp) ?_
    refine AllReadyH.cons (o := _) rfl (fun K hK => ?_) AllReadyH.nil
    go_simp
    (go_at_call 73; (with_reducible refine (sc_spsame [([98], [])] (San2.s (by with_reducible assumption)) (IsSpans.alloc hrs _) (new_ss _ rfl)).mono ?_); rintro e ws ⟨rfl, -, hbs⟩)
    refine hK.out _ _ (by (first | with_reducible assumption | with_reducible exact San2.below (by with_reducible assumption) (by with_reducible assumption) | with_reducible exact San2.alloc (by with_reducible assumption) _)) (fun hHeld => ?_)
    clear hK K
    try simp only [List.setIfInBounds_toArray, List.set_cons_zero, List.set_cons_succ]
    refine wpAnyH_take (i := 39) (oi := _) (v := ?_) rfl (by kernel_rfl) (by kernel_rfl) (by kernel_rfl) (fun _ _ _ h => h) (Or.inl ⟨by rfl, ?_⟩) (by with_reducible assumption) ?_
    rotate_left
    · intro wt hSw
      go_simp
      all_goals with_reducible rfl
    try simp only [Act.put, List.setIfInBounds_toArray, List.set_cons_zero, List.set_cons_succ]
    refine wpAnyH_take (i := 40) (oi := _) (v := ?_) rfl (by kernel_rfl) (by kernel_rfl) (by kernel_rfl) (fun _ _ _ h => h) (Or.inl ⟨by rfl, ?_⟩) (by with_reducible assumption) ?_
    rotate_left
    · intro wt hSw
      go_simp
      all_goals with_reducible rfl
    try simp only [Act.put, List.setIfInBounds_toArray, List.set_cons_zero, List.set_cons_succ]
    exact wpAnyH_listed (by kernel_rfl) (HN.out _ _ _ _ _ _ _ _ _ _ _ _ _ _ _ _ _ _ _ _ _ _ _ _ _ _ _ _ _ _ _ _ _ _ _ _ _ _ _ _ _ _ _ _ _ _ (by with_reducible assumption))
  · go_simp
    refine hK.out _ _ (by (first | with_reducible assumption | with_reducible exact San2.below (by with_reducible assumption) (by with_reducible assumption) | with_reducible exact San2.alloc (by with_reducible assumption) _)) (fun hHeld => ?_)
    clear hK K
    try simp only [List.setIfInBounds_toArray, List.set_cons_zero, List.set_cons_succ]
    refine wpAnyH_ready (rs := [35]) (by kernel_rfl) (by simp) ?_
    refine AllReadyH.cons (o := _) rfl (fun K hK => ?_) AllReadyH.nil
    go_simp
    (go_at_call 40; (with_reducible refine (sc_readsS (San2.s (by assumption))).mono ?_); rintro e wa7 ⟨prs, crs, rfl, hrs, hbrs, -⟩)
    refine hK.out _ _ (by (first | with_reducible assumption | with_reducible exact San2.below (by with_reducible assumption) (by with_reducible assumption) | with_reducible exact San2.alloc (by with_reducible assumption) _)) (fun hHeld => ?_)
    clear hK K
    try simp only [List.setIfInBounds_toArray, List.set_cons_zero, List.set_cons_succ]
    refine wpAnyH_ready (rs := [38]) (by kernel_rfl) (by simp) ?_
    refine AllReadyH.cons (o := _) rfl (fun K hK => ?_) AllReadyH.nil
    go_simp
    (go_at_call 73; (with_reducible refine (sc_spsame [([98], [])] (San2.s (by with_reducible assumption)) hrs (spans_below hbrs (new_ss wx rfl))).mono ?_); rintro e ws ⟨rfl, -, hbs⟩)
    refine hK.out _ _ (by (first | with_reducible assumption | with_reducible exact San2.below (by with_reducible assumption) (by with_reducible assumption) | with_reducible exact San2.alloc (by with_reducible assumption) _)) (fun hHeld => ?_)
    clear hK K
    try simp only [List.setIfInBounds_toArray, List.set_cons_zero, List.set_cons_succ]
    refine wpAnyH_take (i := 39) (oi := _) (v := ?_) rfl (by kernel_rfl) (by kernel_rfl) (by kernel_rfl) (fun _ _ _ h => h) (Or.inl ⟨by rfl, ?_⟩) (by with_reducible assumption) ?_
    rotate_left
    · intro wt hSw
      go_simp
      all_goals with_reducible rfl
    try simp only [Act.put, List.setIfInBounds_toArray, List.set_cons_zero, List.set_cons_succ]
    refine wpAnyH_take (i := 40) (oi := _) (v := ?_) rfl (by kernel_rfl) (by kernel_rfl) (by kernel_rfl) (fun _ _ _ h => h) (Or.inl ⟨by rfl, ?_⟩) (by with_reducible assumption) ?_
    rotate_left
    · intro wt hSw
      go_simp
      all_goals with_reducible rfl
    try simp only [Act.put, List.setIfInBounds_toArray, List.set_cons_zero, List.set_cons_succ]
    exact wpAnyH_listed (by kernel_rfl) (HN.out _ _ _ _ _ _ _ _ _ _ _ _ _ _ _ _ _ _ _ _ _ _ _ _ _ _ _ _ _ _ _ _ _ _ _ _ _ _ _ _ _ _ _ _ _ _ (by with_reducible assumption))
set_option maxRecDepth 1000000 in
set_option maxHeartbeats 16000000 in
theorem reg10_3 (w : World) (n0 n1 n2 n3 n4 n5 n6 k9 k10 : Nat) (s0 s1 s7 s8 s11 s12 s13 s14 s15 s16 s17 s18 s19 s20 s21 s22 s23 s24 s25 s26 s27 s28 s29 s30 s31 s32 s33 s34 s35 s36 s37 s38 s39 s40 s41 s42 s43 s44 s45 s46 s47 s48 s49 s50 s51 s52 s53 s54 s55 s56 s57 s58 s59 s60 s61 s62 s63 s64 s65 s66 s67 s68 s69 s70 s71 s72 s73 s74 s75 s76 s77 s78 s79 s80 s81 s82 s83 s84 s85 s132 s133 s134 s135 s136 s137 s138 s139 s140 s141 s142 s143 s144 s145 s146 s147 s148 s149 s150 s151 s152 s153 s154 s155 s156 s157 s158 s159 s160 s161 s162 s163 s164 s165 s166 s167 s168 s169 s170 s171 s172 s173 s174 s175 s176 s177 s178 s179 s180 s181 s182 s183 s184 s185 s186 s187 s188 s189 s190 s191 s192 s193 s194 s195 s196 s197 : Value) (Q : Exit → Act → World → Prop) (hQ : ∀ (u86 u87 u88 u89 u90 u91 u92 u93 u94 u95 u96 u97 u98 u99 u100 u101 u102 u103 u104 u105 u106 u107 u108 u109 u110 u111 u112 u113 u114 u115 u116 u117 u118 u119 u120 u121 u122 u123 u124 u125 u126 u127 u128 u129 u130 u131 : Value) (wx : World), San2 w n0 n1 n2 n3 n4 n5 n6 k9 k10 wx → Q .normal ⟨#[s0, s1, .pointer (some ⟨n1, 0, none⟩), .pointer (some ⟨n2, 0, none⟩), .pointer (some ⟨n3, 0, none⟩), .pointer (some ⟨n4, 0, none⟩), .pointer (some ⟨n5, 0, none⟩), s7, s8, .pointer (some ⟨k9, 0, none⟩), .pointer (some ⟨k10, 0, none⟩), .bool true, s12, s13, s14, s15, s16, s17, s18, s19, s20, s21, s22, s23, s24, s25, s26, s27, s28, s29, s30, s31, s32, s33, s34, s35, s36, s37, s38, s39, s40, s41, s42, s43, s44, s45, s46, s47, s48, s49, s50, s51, s52, s53, s54, s55, s56, s57, s58, s59, s60, s61, s62, s63, s64, s65, s66, s67, s68, s69, s70, s71, s72, s73, s74, s75, s76, s77, s78, s79, s80, s81, s82, s83, s84, s85, u86, u87, u88, u89, u90, u91, u92, u93, u94, u95, u96, u97, u98, u99, u100, u101, u102, u103, u104, u105, u106, u107, u108, u109, u110, u111, u112, u113, u114, u115, u116, u117, u118, u119, u120, u121, u122, u123, u124, u125, u126, u127, u128, u129, u130, u131, s132, s133, s134, s135, s136, s137, s138, s139, s140, s141, s142, s143, s144, s145, s146, s147, s148, s149, s150, s151, s152, s153, s154, s155, s156, s157, s158, s159, s160, s161, s162, s163, s164, s165, s166, s167, s168, s169, s170, s171, s172, s173, s174, s175, s176, s177, s178, s179, s180, s181, s182, s183, s184, s185, s186, s187, s188, s189, s190, s191, s192, s193, s194, s195, s196, s197], []⟩ wx)
    (s86 s87 s88 s89 s90 s91 s92 s93 s94 s95 s96 s97 s98 s99 s100 s101 s102 s103 s104 s105 s106 s107 s108 s109 s110 s111 s113 s114 s115 s116 s117 s118 s119 s120 s121 s122 s123 s124 s125 s126 s127 s128 s129 s130 s131 : Value) (wx : World) (hHeld : San2 w n0 n1 n2 n3 n4 n5 n6 k9 k10 wx) :
    wpAnyH Tryz.prog .any (codeOps reg10) (NoPanic Q) (fun wr => San2 w n0 n1 n2 n3 n4 n5 n6 k9 k10 wr) 20 #[true, true, true, true, true, true, true, true, true, true, true, true, true, true, true, true, true, true, true, true, true, true, true, true, true, true, true, false, false, false, false, false, false, false, false, false, false, false, false, false, false, false, false, false, false, false, false] ⟨#[s0, s1, .pointer (some ⟨n1, 0, none⟩), .pointer (some ⟨n2, 0, none⟩), .pointer (some ⟨n3, 0, none⟩), .pointer (some ⟨n4, 0, none⟩), .pointer (some ⟨n5, 0, none⟩), s7, s8, .pointer (some ⟨k9, 0, none⟩), .pointer (some ⟨k10, 0, none⟩), s11, s12, s13, s14, s15, s16, s17, s18, s19, s20, s21, s22, s23, s24, s25, s26, s27, s28, s29, s30, s31, s32, s33, s34, s35, s36, s37, s38, s39, s40, s41, s42, s43, s44, s45, s46, s47, s48, s49, s50, s51, s52, s53, s54, s55, s56, s57, s58, s59, s60, s61, s62, s63, s64, s65, s66, s67, s68, s69, s70, s71, s72, s73, s74, s75, s76, s77, s78, s79, s80, s81, s82, s83, s84, s85, s86, s87, s88, s89, s90, s91, s92, s93, s94, s95, s96, s97, s98, s99, s100, s101, s102, s103, s104, s105, s106, s107, s108, s109, s110, s111, .bool true, s113, s114, s115, s116, s117, s118, s119, s120, s121, s122, s123, s124, s125, s126, s127, s128, s129, s130, s131, s132, s133, s134, s135, s136, s137, s138, s139, s140, s141, s142, s143, s144, s145, s146, s147, s148, s149, s150, s151, s152, s153, s154, s155, s156, s157, s158, s159, s160, s161, s162, s163, s164, s165, s166, s167, s168, s169, s170, s171, s172, s173, s174, s175, s176, s177, s178, s179, s180, s181, s182, s183, s184, s185, s186, s187, s188, s189, s190, s191, s192, s193, s194, s195, s196, s197], []⟩ wx := by
  have HN := Lib.hid (reg10_4 w n0 n1 n2 n3 n4 n5 n6 k9 k10 s0 s1 s7 s8 s11 s12 s13 s14 s15 s16 s17 s18 s19 s20 s21 s22 s23 s24 s25 s26 s27 s28 s29 s30 s31 s32 s33 s34 s35 s36 s37 s38 s39 s40 s41 s42 s43 s44 s45 s46 s47 s48 s49 s50 s51 s52 s53 s54 s55 s56 s57 s58 s59 s60 s61 s62 s63 s64 s65 s66 s67 s68 s69 s70 s71 s72 s73 s74 s75 s76 s77 s78 s79 s80 s81 s82 s83 s84 s85 s132 s133 s134 s135 s136 s137 s138 s139 s140 s141 s142 s143 s144 s145 s146 s147 s148 s149 s150 s151 s152 s153 s154 s155 s156 s157 s158 s159 s160 s161 s162 s163 s164 s165 s166 s167 s168 s169 s170 s171 s172 s173 s174 s175 s176 s177 s178 s179 s180 s181 s182 s183 s184 s185 s186 s187 s188 s189 s190 s191 s192 s193 s194 s195 s196 s197 Q hQ)
  clear hQ
  conv => arg 3; arg 1; whnf
  dsimp only [codeOps]
  have p0 := fun wr (h : San2 w n0 n1 n2 n3 n4 n5 n6 k9 k10 wr) => h.s.cp.1
  have p1 := fun wr (h : San2 w n0 n1 n2 n3 n4 n5 n6 k9 k10 wr) => h.s.cp.2.1
  have p2 := fun wr (h : San2 w n0 n1 n2 n3 n4 n5 n6 k9 k10 wr) => h.s.cp.2.2.1
  have p3 := fun wr (h : San2 w n0 n1 n2 n3 n4 n5 n6 k9 k10 wr) => h.s.cp.2.2.2.1
  have p4 := fun wr (h : San2 w n0 n1 n2 n3 n4 n5 n6 k9 k10 wr) => h.s.cp.2.2.2.2.1
  have p5 := fun wr (h : San2 w n0 n1 n2 n3 n4 n5 n6 k9 k10 wr) => h.s.cp.2.2.2.2.2.1
  have p6 := fun wr (h : San2 w n0 n1 n2 n3 n4 n5 n6 k9 k10 wr) => h.s.cp.2.2.2.2.2.2.1
  have p7 := fun wr (h : San2 w n0 n1 n2 n3 n4 n5 n6 k9 k10 wr) => h.s.cp.2.2.2.2.2.2.2
  have v0 := fun wr (h : San2 w n0 n1 n2 n3 n4 n5 n6 k9 k10 wr) => h.s.cv.1
  have v1 := fun wr (h : San2 w n0 n1 n2 n3 n4 n5 n6 k9 k10 wr) => h.s.cv.2.1
  have v2 := fun wr (h : San2 w n0 n1 n2 n3 n4 n5 n6 k9 k10 wr) => h.s.cv.2.2.1
  have v3 := fun wr (h : San2 w n0 n1 n2 n3 n4 n5 n6 k9 k10 wr) => h.s.cv.2.2.2.1
  have v4 := fun wr (h : San2 w n0 n1 n2 n3 n4 n5 n6 k9 k10 wr) => h.s.cv.2.2.2.2.1
  have v5 := fun wr (h : San2 w n0 n1 n2 n3 n4 n5 n6 k9 k10 wr) => h.s.cv.2.2.2.2.2.1
  have v6 := fun wr (h : San2 w n0 n1 n2 n3 n4 n5 n6 k9 k10 wr) => h.s.cv.2.2.2.2.2.2.1
  have v7 := fun wr (h : San2 w n0 n1 n2 n3 n4 n5 n6 k9 k10 wr) => h.s.cv.2.2.2.2.2.2.2
  have c0 := fun wr (h : San2 w n0 n1 n2 n3 n4 n5 n6 k9 k10 wr) => h.s.cc.1
  have c1 := fun wr (h : San2 w n0 n1 n2 n3 n4 n5 n6 k9 k10 wr) => h.s.cc.2.1
  have c2 := fun wr (h : San2 w n0 n1 n2 n3 n4 n5 n6 k9 k10 wr) => h.s.cc.2.2.1
  have c3 := fun wr (h : San2 w n0 n1 n2 n3 n4 n5 n6 k9 k10 wr) => h.s.cc.2.2.2.1
  have c4 := fun wr (h : San2 w n0 n1 n2 n3 n4 n5 n6 k9 k10 wr) => h.s.cc.2.2.2.2.1
  have c5 := fun wr (h : San2 w n0 n1 n2 n3 n4 n5 n6 k9 k10 wr) => h.s.cc.2.2.2.2.2.1
  have c6 := fun wr (h : San2 w n0 n1 n2 n3 n4 n5 n6 k9 k10 wr) => h.s.cc.2.2.2.2.2.2.1
  have c7 := fun wr (h : San2 w n0 n1 n2 n3 n4 n5 n6 k9 k10 wr) => h.s.cc.2.2.2.2.2.2.2
  have s0 := fun wr (h : San2 w n0 n1 n2 n3 n4 n5 n6 k9 k10 wr) => h.s.cs.1
  have s1 := fun wr (h : San2 w n0 n1 n2 n3 n4 n5 n6 k9 k10 wr) => h.s.cs.2.1
  have s2 := fun wr (h : San2 w n0 n1 n2 n3 n4 n5 n6 k9 k10 wr) => h.s.cs.2.2.1
  have s3 := fun wr (h : San2 w n0 n1 n2 n3 n4 n5 n6 k9 k10 wr) => h.s.cs.2.2.2.1
  have s4 := fun wr (h : San2 w n0 n1 n2 n3 n4 n5 n6 k9 k10 wr) => h.s.cs.2.2.2.2.1
  have s5 := fun wr (h : San2 w n0 n1 n2 n3 n4 n5 n6 k9 k10 wr) => h.s.cs.2.2.2.2.2.1
  have s6 := fun wr (h : San2 w n0 n1 n2 n3 n4 n5 n6 k9 k10 wr) => h.s.cs.2.2.2.2.2.2.1
  have s7 := fun wr (h : San2 w n0 n1 n2 n3 n4 n5 n6 k9 k10 wr) => h.s.cs.2.2.2.2.2.2.2
  have x0 : ∀ wr, San2 w n0 n1 n2 n3 n4 n5 n6 k9 k10 wr → wr.cell? ⟨k9, 0, none⟩ = some (.string ⟨#[97, 47]⟩) := fun wr h => h.a.c0 0 _ rfl
  have x1 : ∀ wr, San2 w n0 n1 n2 n3 n4 n5 n6 k9 k10 wr → wr.cell? ⟨k9, 1, none⟩ = some (.string ⟨#[97, 48]⟩) := fun wr h => h.a.c0 1 _ rfl
  have y0 : ∀ wr, San2 w n0 n1 n2 n3 n4 n5 n6 k9 k10 wr → wr.cell? ⟨k10, 0, none⟩ = some (.string ⟨#[98, 47]⟩) := fun wr h => h.b.c0 0 _ rfl
  have y1 : ∀ wr, San2 w n0 n1 n2 n3 n4 n5 n6 k9 k10 wr → wr.cell? ⟨k10, 1, none⟩ = some (.string ⟨#[98, 48]⟩) := fun wr h => h.b.c0 1 _ rfl
  refine wpAnyH_take (i := 27) (oi := _) (v := ?_) rfl (by kernel_rfl) (by kernel_rfl) (by kernel_rfl) (fun _ _ _ h => h) (Or.inl ⟨by rfl, ?_⟩) (by with_reducible assumption) ?_
  rotate_left
  · intro wt hSw
    go_simp
    all_goals with_reducible rfl
  try simp only [Act.put, List.setIfInBounds_toArray, List.set_cons_zero, List.set_cons_succ]
  refine wpAnyH_take (i := 29) (oi := _) (v := ?_) rfl (by kernel_rfl) (by kernel_rfl) (by kernel_rfl) (fun _ _ _ h => h) (Or.inl ⟨by rfl, ?_⟩) (by with_reducible assumption) ?_
  rotate_left
  · intro wt hSw
    go_simp
    all_goals with_reducible rfl
  try simp only [Act.put, List.setIfInBounds_toArray, List.set_cons_zero, List.set_cons_succ]
  refine wpAnyH_ready (rs := [28, 30]) (by kernel_rfl) (by simp) ?_
  refine AllReadyH.cons (o := _) rfl (fun K hK => ?_) (AllReadyH.cons (o := _) rfl (fun K hK => ?_) AllReadyH.nil)
  · go_simp
    (go_at_call 42; (with_reducible refine (sc_killsC (San2.s (by assumption))).mono ?_); rintro e wa6 ⟨pkc, ckc, rfl, hkc, hbkc, -⟩)
    refine hK.out _ _ (by (first | with_reducible assumption | with_reducible exact San2.below (by with_reducible assumption) (by with_reducible assumption) | with_reducible exact San2.alloc (by with_reducible assumption) _)) (fun hHeld => ?_)
    clear hK K
    try simp only [List.setIfInBounds_toArray, List.set_cons_zero, List.set_cons_succ]
    refine wpAnyH_ready (rs := [30]) (by kernel_rfl) (by simp) ?_
    refine AllReadyH.cons (o := _) rfl (fun K hK => ?_) AllReadyH.nil
    go_simp
    refine hK.out _ _ (by (first | with_reducible assumption | with_reducible exact San2.below (by with_reducible assumption) (by with_reducible assumption) | with_reducible exact San2.alloc (by with_reducible assumption) _)) (fun hHeld => ?_)
    clear hK K
    try simp only [List.setIfInBounds_toArray, List.set_cons_zero, List.set_cons_succ]
    refine wpAnyH_ready (rs := [31]) (by kernel_rfl) (by simp) ?_
    refine AllReadyH.cons (o := _) rfl (fun K hK => ?_) AllReadyH.nil
    go_simp
    (go_at_call 73; (with_reducible refine (sc_spsame [([98, 47], [98, 48])] (San2.s (by with_reducible assumption)) (IsSpans.alloc hkc _) (new_sb _ rfl)).mono ?_); rintro e ws ⟨rfl, -, hbs⟩)
    refine hK.out _ _ (by (first | with_reducible assumption | with_reducible exact San2.below (by with_reducible assumption) (by with_reducible assumption) | with_reducible exact San2.alloc (by with_reducible assumption) _)) (fun hHeld => ?_)
    clear hK K
    try simp only [List.setIfInBounds_toArray, List.set_cons_zero, List.set_cons_succ]
    refine wpAnyH_take (i := 32) (oi := _) (v := ?_) rfl (by kernel_rfl) (by kernel_rfl) (by kernel_rfl) (fun _ _ _ h => h) (Or.inl ⟨by rfl, ?_⟩) (by with_reducible assumption) ?_
    rotate_left
    · intro wt hSw
      go_simp
      all_goals with_reducible rfl
    try simp only [Act.put, List.setIfInBounds_toArray, List.set_cons_zero, List.set_cons_succ]
    refine wpAnyH_take (i := 33) (oi := _) (v := ?_) rfl (by kernel_rfl) (by kernel_rfl) (by kernel_rfl) (fun _ _ _ h => h) (Or.inl ⟨by rfl, ?_⟩) (by with_reducible assumption) ?_
    rotate_left
    · intro wt hSw
      go_simp
      all_goals with_reducible rfl
    try simp only [Act.put, List.setIfInBounds_toArray, List.set_cons_zero, List.set_cons_succ]
    exact wpAnyH_listed (by kernel_rfl) (HN.out _ _ _ _ _ _ _ _ _ _ _ _ _ _ _ _ _ _ _ _ _ _ _ _ _ _ _ _ _ _ _ _ _ _ _ _ _ _ _ _ _ _ _ _ _ _ (by with_reducible assumption))
  · go_simp
    refine hK.out _ _ (by (first | with_reducible assumption | with_reducible exact San2.below (by with_reducible assumption) (by with_reducible assumption) | with_reducible exact San2.alloc (by with_reducible assumption) _)) (fun hHeld => ?_)
    clear hK K
    try simp only [List.setIfInBounds_toArray, List.set_cons_zero, List.set_cons_succ]
    refine wpAnyH_ready (rs := [28]) (by kernel_rfl) (by simp) ?_
    refine AllReadyH.cons (o := _) rfl (fun K hK => ?_) AllReadyH.nil
    go_simp
    (go_at_call 42; (with_reducible refine (sc_killsC (San2.s (by assumption))).mono ?_); rintro e wa6 ⟨pkc, ckc, rfl, hkc, hbkc, -⟩)
    refine hK.out _ _ (by (first | with_reducible assumption | with_reducible exact San2.below (by with_reducible assumption) (by with_reducible assumption) | with_reducible exact San2.alloc (by with_reducible assumption) _)) (fun hHeld => ?_)
    clear hK K
    try simp only [List.setIfInBounds_toArray, List.set_cons_zero, List.set_cons_succ]
    refine wpAnyH_ready (rs := [31]) (by kernel_rfl) (by simp) ?_
    refine AllReadyH.cons (o := _) rfl (fun K hK => ?_) AllReadyH.nil
    go_simp
    (go_at_call 73; (with_reducible refine (sc_spsame [([98, 47], [98, 48])] (San2.s (by with_reducible assumption)) hkc (spans_below hbkc (new_sb wx rfl))).mono ?_); rintro e ws ⟨rfl, -, hbs⟩)
    refine hK.out _ _ (by (first | with_reducible assumption | with_reducible exact San2.below (by with_reducible assumption) (by with_reducible assumption) | with_reducible exact San2.alloc (by with_reducible assumption) _)) (fun hHeld => ?_)
    clear hK K
    try simp only [List.setIfInBounds_toArray, List.set_cons_zero, List.set_cons_succ]
    refine wpAnyH_take (i := 32) (oi := _) (v := ?_) rfl (by kernel_rfl) (by kernel_rfl) (by kernel_rfl) (fun _ _ _ h => h) (Or.inl ⟨by rfl, ?_⟩) (by with_reducible assumption) ?_
    rotate_left
    · intro wt hSw
      go_simp
      all_goals with_reducible rfl
    try simp only [Act.put, List.setIfInBounds_toArray, List.set_cons_zero, List.set_cons_succ]
    refine wpAnyH_take (i := 33) (oi := _) (v := ?_) rfl (by kernel_rfl) (by kernel_rfl) (by kernel_rfl) (fun _ _ _ h => h) (Or.inl ⟨by rfl, ?_⟩) (by with_reducible assumption) ?_
    rotate_left
    · intro wt hSw
      go_simp
      all_goals with_reducible rfl
    try simp only [Act.put, List.setIfInBounds_toArray, List.set_cons_zero, List.set_cons_succ]
    exact wpAnyH_listed (by kernel_rfl) (HN.out _ _ _ _ _ _ _ _ _ _ _ _ _ _ _ _ _ _ _ _ _ _ _ _ _ _ _ _ _ _ _ _ _ _ _ _ _ _ _ _ _ _ _ _ _ _ (by with_reducible assumption))
set_option maxRecDepth 1000000 in
set_option maxHeartbeats 16000000 in
theorem reg10_2 (w : World) (n0 n1 n2 n3 n4 n5 n6 k9 k10 : Nat) (s0 s1 s7 s8 s11 s12 s13 s14 s15 s16 s17 s18 s19 s20 s21 s22 s23 s24 s25 s26 s27 s28 s29 s30 s31 s32 s33 s34 s35 s36 s37 s38 s39 s40 s41 s42 s43 s44 s45 s46 s47 s48 s49 s50 s51 s52 s53 s54 s55 s56 s57 s58 s59 s60 s61 s62 s63 s64 s65 s66 s67 s68 s69 s70 s71 s72 s73 s74 s75 s76 s77 s78 s79 s80 s81 s82 s83 s84 s85 s132 s133 s134 s135 s136 s137 s138 s139 s140 s141 s142 s143 s144 s145 s146 s147 s148 s149 s150 s151 s152 s153 s154 s155 s156 s157 s158 s159 s160 s161 s162 s163 s164 s165 s166 s167 s168 s169 s170 s171 s172 s173 s174 s175 s176 s177 s178 s179 s180 s181 s182 s183 s184 s185 s186 s187 s188 s189 s190 s191 s192 s193 s194 s195 s196 s197 : Value) (Q : Exit → Act → World → Prop) (hQ : ∀ (u86 u87 u88 u89 u90 u91 u92 u93 u94 u95 u96 u97 u98 u99 u100 u101 u102 u103 u104 u105 u106 u107 u108 u109 u110 u111 u112 u113 u114 u115 u116 u117 u118 u119 u120 u121 u122 u123 u124 u125 u126 u127 u128 u129 u130 u131 : Value) (wx : World), San2 w n0 n1 n2 n3 n4 n5 n6 k9 k10 wx → Q .normal ⟨#[s0, s1, .pointer (some ⟨n1, 0, none⟩), .pointer (some ⟨n2, 0, none⟩), .pointer (some ⟨n3, 0, none⟩), .pointer (some ⟨n4, 0, none⟩), .pointer (some ⟨n5, 0, none⟩), s7, s8, .pointer (some ⟨k9, 0, none⟩), .pointer (some ⟨k10, 0, none⟩), .bool true, s12, s13, s14, s15, s16, s17, s18, s19, s20, s21, s22, s23, s24, s25, s26, s27, s28, s29, s30, s31, s32, s33, s34, s35, s36, s37, s38, s39, s40, s41, s42, s43, s44, s45, s46, s47, s48, s49, s50, s51, s52, s53, s54, s55, s56, s57, s58, s59, s60, s61, s62, s63, s64, s65, s66, s67, s68, s69, s70, s71, s72, s73, s74, s75, s76, s77, s78, s79, s80, s81, s82, s83, s84, s85, u86, u87, u88, u89, u90, u91, u92, u93, u94, u95, u96, u97, u98, u99, u100, u101, u102, u103, u104, u105, u106, u107, u108, u109, u110, u111, u112, u113, u114, u115, u116, u117, u118, u119, u120, u121, u122, u123, u124, u125, u126, u127, u128, u129, u130, u131, s132, s133, s134, s135, s136, s137, s138, s139, s140, s141, s142, s143, s144, s145, s146, s147, s148, s149, s150, s151, s152, s153, s154, s155, s156, s157, s158, s159, s160, s161, s162, s163, s164, s165, s166, s167, s168, s169, s170, s171, s172, s173, s174, s175, s176, s177, s178, s179, s180, s181, s182, s183, s184, s185, s186, s187, s188, s189, s190, s191, s192, s193, s194, s195, s196, s197], []⟩ wx)
    (s86 s87 s88 s89 s90 s91 s92 s93 s94 s95 s96 s97 s98 s99 s100 s101 s102 s103 s105 s106 s107 s108 s109 s110 s111 s112 s113 s114 s115 s116 s117 s118 s119 s120 s121 s122 s123 s124 s125 s126 s127 s128 s129 s130 s131 : Value) (wx : World) (hHeld : San2 w n0 n1 n2 n3 n4 n5 n6 k9 k10 wx) :
    wpAnyH Tryz.prog .any (codeOps reg10) (NoPanic Q) (fun wr => San2 w n0 n1 n2 n3 n4 n5 n6 k9 k10 wr) 28 #[true, true, true, true, true, true, true, true, true, true, true, true, true, true, true, true, true, true, true, false, false, false, false, false, false, false, false, false, false, false, false, false, false, false, false, false, false, false, false, false, false, false, false, false, false, false, false] ⟨#[s0, s1, .pointer (some ⟨n1, 0, none⟩), .pointer (some ⟨n2, 0, none⟩), .pointer (some ⟨n3, 0, none⟩), .pointer (some ⟨n4, 0, none⟩), .pointer (some ⟨n5, 0, none⟩), s7, s8, .pointer (some ⟨k9, 0, none⟩), .pointer (some ⟨k10, 0, none⟩), s11, s12, s13, s14, s15, s16, s17, s18, s19, s20, s21, s22, s23, s24, s25, s26, s27, s28, s29, s30, s31, s32, s33, s34, s35, s36, s37, s38, s39, s40, s41, s42, s43, s44, s45, s46, s47, s48, s49, s50, s51, s52, s53, s54, s55, s56, s57, s58, s59, s60, s61, s62, s63, s64, s65, s66, s67, s68, s69, s70, s71, s72, s73, s74, s75, s76, s77, s78, s79, s80, s81, s82, s83, s84, s85, s86, s87, s88, s89, s90, s91, s92, s93, s94, s95, s96, s97, s98, s99, s100, s101, s102, s103, .bool true, s105, s106, s107, s108, s109, s110, s111, s112, s113, s114, s115, s116, s117, s118, s119, s120, s121, s122, s123, s124, s125, s126, s127, s128, s129, s130, s131, s132, s133, s134, s135, s136, s137, s138, s139, s140, s141, s142, s143, s144, s145, s146, s147, s148, s149, s150, s151, s152, s153, s154, s155, s156, s157, s158, s159, s160, s161, s162, s163, s164, s165, s166, s167, s168, s169, s170, s171, s172, s173, s174, s175, s176, s177, s178, s179, s180, s181, s182, s183, s184, s185, s186, s187, s188, s189, s190, s191, s192, s193, s194, s195, s196, s197], []⟩ wx := by
  have HN := Lib.hid (reg10_3 w n0 n1 n2 n3 n4 n5 n6 k9 k10 s0 s1 s7 s8 s11 s12 s13 s14 s15 s16 s17 s18 s19 s20 s21 s22 s23 s24 s25 s26 s27 s28 s29 s30 s31 s32 s33 s34 s35 s36 s37 s38 s39 s40 s41 s42 s43 s44 s45 s46 s47 s48 s49 s50 s51 s52 s53 s54 s55 s56 s57 s58 s59 s60 s61 s62 s63 s64 s65 s66 s67 s68 s69 s70 s71 s72 s73 s74 s75 s76 s77 s78 s79 s80 s81 s82 s83 s84 s85 s132 s133 s134 s135 s136 s137 s138 s139 s140 s141 s142 s143 s144 s145 s146 s147 s148 s149 s150 s151 s152 s153 s154 s155 s156 s157 s158 s159 s160 s161 s162 s163 s164 s165 s166 s167 s168 s169 s170 s171 s172 s173 s174 s175 s176 s177 s178 s179 s180 s181 s182 s183 s184 s185 s186 s187 s188 s189 s190 s191 s192 s193 s194 s195 s196 s197 Q hQ)
  clear hQ
  conv => arg 3; arg 1; whnf
  dsimp only [codeOps]
  have p0 := fun wr (h : San2 w n0 n1 n2 n3 n4 n5 n6 k9 k10 wr) => h.s.cp.1
  have p1 := fun wr (h : San2 w n0 n1 n2 n3 n4 n5 n6 k9 k10 wr) => h.s.cp.2.1
  have p2 := fun wr (h : San2 w n0 n1 n2 n3 n4 n5 n6 k9 k10 wr) => h.s.cp.2.2.1
  have p3 := fun wr (h : San2 w n0 n1 n2 n3 n4 n5 n6 k9 k10 wr) => h.s.cp.2.2.2.1
  have p4 := fun wr (h : San2 w n0 n1 n2 n3 n4 n5 n6 k9 k10 wr) => h.s.cp.2.2.2.2.1
  have p5 := fun wr (h : San2 w n0 n1 n2 n3 n4 n5 n6 k9 k10 wr) => h.s.cp.2.2.2.2.2.1
  have p6 := fun wr (h : San2 w n0 n1 n2 n3 n4 n5 n6 k9 k10 wr) => h.s.cp.2.2.2.2.2.2.1
  have p7 := fun wr (h : San2 w n0 n1 n2 n3 n4 n5 n6 k9 k10 wr) => h.s.cp.2.2.2.2.2.2.2
  have v0 := fun wr (h : San2 w n0 n1 n2 n3 n4 n5 n6 k9 k10 wr) => h.s.cv.1
  have v1 := fun wr (h : San2 w n0 n1 n2 n3 n4 n5 n6 k9 k10 wr) => h.s.cv.2.1
  have v2 := fun wr (h : San2 w n0 n1 n2 n3 n4 n5 n6 k9 k10 wr) => h.s.cv.2.2.1
  have v3 := fun wr (h : San2 w n0 n1 n2 n3 n4 n5 n6 k9 k10 wr) => h.s.cv.2.2.2.1
  have v4 := fun wr (h : San2 w n0 n1 n2 n3 n4 n5 n6 k9 k10 wr) => h.s.cv.2.2.2.2.1
  have v5 := fun wr (h : San2 w n0 n1 n2 n3 n4 n5 n6 k9 k10 wr) => h.s.cv.2.2.2.2.2.1
  have v6 := fun wr (h : San2 w n0 n1 n2 n3 n4 n5 n6 k9 k10 wr) => h.s.cv.2.2.2.2.2.2.1
  have v7 := fun wr (h : San2 w n0 n1 n2 n3 n4 n5 n6 k9 k10 wr) => h.s.cv.2.2.2.2.2.2.2
  have c0 := fun wr (h : San2 w n0 n1 n2 n3 n4 n5 n6 k9 k10 wr) => h.s.cc.1
  have c1 := fun wr (h : San2 w n0 n1 n2 n3 n4 n5 n6 k9 k10 wr) => h.s.cc.2.1
  have c2 := fun wr (h : San2 w n0 n1 n2 n3 n4 n5 n6 k9 k10 wr) => h.s.cc.2.2.1
  have c3 := fun wr (h : San2 w n0 n1 n2 n3 n4 n5 n6 k9 k10 wr) => h.s.cc.2.2.2.1
  have c4 := fun wr (h : San2 w n0 n1 n2 n3 n4 n5 n6 k9 k10 wr) => h.s.cc.2.2.2.2.1
  have c5 := fun wr (h : San2 w n0 n1 n2 n3 n4 n5 n6 k9 k10 wr) => h.s.cc.2.2.2.2.2.1
  have c6 := fun wr (h : San2 w n0 n1 n2 n3 n4 n5 n6 k9 k10 wr) => h.s.cc.2.2.2.2.2.2.1
  have c7 := fun wr (h : San2 w n0 n1 n2 n3 n4 n5 n6 k9 k10 wr) => h.s.cc.2.2.2.2.2.2.2
  have s0 := fun wr (h : San2 w n0 n1 n2 n3 n4 n5 n6 k9 k10 wr) => h.s.cs.1
  have s1 := fun wr (h : San2 w n0 n1 n2 n3 n4 n5 n6 k9 k10 wr) => h.s.cs.2.1
  have s2 := fun wr (h : San2 w n0 n1 n2 n3 n4 n5 n6 k9 k10 wr) => h.s.cs.2.2.1
  have s3 := fun wr (h : San2 w n0 n1 n2 n3 n4 n5 n6 k9 k10 wr) => h.s.cs.2.2.2.1
  have s4 := fun wr (h : San2 w n0 n1 n2 n3 n4 n5 n6 k9 k10 wr) => h.s.cs.2.2.2.2.1
  have s5 := fun wr (h : San2 w n0 n1 n2 n3 n4 n5 n6 k9 k10 wr) => h.s.cs.2.2.2.2.2.1
  have s6 := fun wr (h : San2 w n0 n1 n2 n3 n4 n5 n6 k9 k10 wr) => h.s.cs.2.2.2.2.2.2.1
  have s7 := fun wr (h : San2 w n0 n1 n2 n3 n4 n5 n6 k9 k10 wr) => h.s.cs.2.2.2.2.2.2.2
  have x0 : ∀ wr, San2 w n0 n1 n2 n3 n4 n5 n6 k9 k10 wr → wr.cell? ⟨k9, 0, none⟩ = some (.string ⟨#[97, 47]⟩) := fun wr h => h.a.c0 0 _ rfl
  have x1 : ∀ wr, San2 w n0 n1 n2 n3 n4 n5 n6 k9 k10 wr → wr.cell? ⟨k9, 1, none⟩ = some (.string ⟨#[97, 48]⟩) := fun wr h => h.a.c0 1 _ rfl
  have y0 : ∀ wr, San2 w n0 n1 n2 n3 n4 n5 n6 k9 k10 wr → wr.cell? ⟨k10, 0, none⟩ = some (.string ⟨#[98, 47]⟩) := fun wr h => h.b.c0 0 _ rfl
  have y1 : ∀ wr, San2 w n0 n1 n2 n3 n4 n5 n6 k9 k10 wr → wr.cell? ⟨k10, 1, none⟩ = some (.string ⟨#[98, 48]⟩) := fun wr h => h.b.c0 1 _ rfl
  refine wpAnyH_take (i := 19) (oi := _) (v := ?_) rfl (by kernel_rfl) (by kernel_rfl) (by kernel_rfl) (fun _ _ _ h => h) (Or.inl ⟨by rfl, ?_⟩) (by with_reducible assumption) ?_
  rotate_left
  · intro wt hSw
    go_simp
    all_goals with_reducible rfl
  try simp only [Act.put, List.setIfInBounds_toArray, List.set_cons_zero, List.set_cons_succ]
  refine wpAnyH_take (i := 21) (oi := _) (v := ?_) rfl (by kernel_rfl) (by kernel_rfl) (by kernel_rfl) (fun _ _ _ h => h) (Or.inl ⟨by rfl, ?_⟩) (by with_reducible assumption) ?_
  rotate_left
  · intro wt hSw
    go_simp
    all_goals with_reducible rfl
  try simp only [Act.put, List.setIfInBounds_toArray, List.set_cons_zero, List.set_cons_succ]
  refine wpAnyH_take (i := 22) (oi := _) (v := ?_) rfl (by kernel_rfl) (by kernel_rfl) (by kernel_rfl) (fun _ _ _ h => h) (Or.inl ⟨by rfl, ?_⟩) (by with_reducible assumption) ?_
  rotate_left
  · intro wt hSw
    go_simp
    all_goals with_reducible rfl
  try simp only [Act.put, List.setIfInBounds_toArray, List.set_cons_zero, List.set_cons_succ]
  refine wpAnyH_ready (rs := [20, 23]) (by kernel_rfl) (by simp) ?_
  refine AllReadyH.cons (o := _) rfl (fun K hK => ?_) (AllReadyH.cons (o := _) rfl (fun K hK => ?_) AllReadyH.nil)
  · go_simp
    (go_at_call 41; (with_reducible refine (sc_writesV (San2.s (by assumption))).mono ?_); rintro e wa5 ⟨pwv, cwv, rfl, hwv, hbwv, -⟩)
    refine hK.out _ _ (by (first | with_reducible assumption | with_reducible exact San2.below (by with_reducible assumption) (by with_reducible assumption) | with_reducible exact San2.alloc (by with_reducible assumption) _)) (fun hHeld => ?_)
    clear hK K
    try simp only [List.setIfInBounds_toArray, List.set_cons_zero, List.set_cons_succ]
    refine wpAnyH_ready (rs := [23]) (by kernel_rfl) (by simp) ?_
    refine AllReadyH.cons (o := _) rfl (fun K hK => ?_) AllReadyH.nil
    go_simp
    refine hK.out _ _ (by (first | with_reducible assumption | with_reducible exact San2.below (by with_reducible assumption) (by with_reducible assumption) | with_reducible exact San2.alloc (by with_reducible assumption) _)) (fun hHeld => ?_)
    clear hK K
    try simp only [List.setIfInBounds_toArray, List.set_cons_zero, List.set_cons_succ]
    refine wpAnyH_ready (rs := [24]) (by kernel_rfl) (by simp) ?_
    refine AllReadyH.cons (o := _) rfl (fun K hK => ?_) AllReadyH.nil
    go_simp
    (go_at_call 73; (with_reducible refine (sc_spsame [([97, 47], [97, 48]), ([98, 47], [98, 48])] (San2.s (by with_reducible assumption)) (IsSpans.alloc hwv _) (new_sab _ rfl)).mono ?_); rintro e ws ⟨rfl, -, hbs⟩)
    refine hK.out _ _ (by (first | with_reducible assumption | with_reducible exact San2.below (by with_reducible assumption) (by with_reducible assumption) | with_reducible exact San2.alloc (by with_reducible assumption) _)) (fun hHeld => ?_)
    clear hK K
    try simp only [List.setIfInBounds_toArray, List.set_cons_zero, List.set_cons_succ]
    refine wpAnyH_take (i := 25) (oi := _) (v := ?_) rfl (by kernel_rfl) (by kernel_rfl) (by kernel_rfl) (fun _ _ _ h => h) (Or.inl ⟨by rfl, ?_⟩) (by with_reducible assumption) ?_
    rotate_left
    · intro wt hSw
      go_simp
      all_goals with_reducible rfl
    try simp only [Act.put, List.setIfInBounds_toArray, List.set_cons_zero, List.set_cons_succ]
    refine wpAnyH_take (i := 26) (oi := _) (v := ?_) rfl (by kernel_rfl) (by kernel_rfl) (by kernel_rfl) (fun _ _ _ h => h) (Or.inl ⟨by rfl, ?_⟩) (by with_reducible assumption) ?_
    rotate_left
    · intro wt hSw
      go_simp
      all_goals with_reducible rfl
    try simp only [Act.put, List.setIfInBounds_toArray, List.set_cons_zero, List.set_cons_succ]
    exact wpAnyH_listed (by kernel_rfl) (HN.out _ _ _ _ _ _ _ _ _ _ _ _ _ _ _ _ _ _ _ _ _ _ _ _ _ _ _ _ _ _ _ _ _ _ _ _ _ _ _ _ _ _ _ _ _ _ (by with_reducible assumption))
  · go_simp
    refine hK.out _ _ (by (first | with_reducible assumption | with_reducible exact San2.below (by with_reducible assumption) (by with_reducible assumption) | with_reducible exact San2.alloc (by with_reducible assumption) _)) (fun hHeld => ?_)
    clear hK K
    try simp only [List.setIfInBounds_toArray, List.set_cons_zero, List.set_cons_succ]
    refine wpAnyH_ready (rs := [20]) (by kernel_rfl) (by simp) ?_
    refine AllReadyH.cons (o := _) rfl (fun K hK => ?_) AllReadyH.nil
    go_simp
    (go_at_call 41; (with_reducible refine (sc_writesV (San2.s (by assumption))).mono ?_); rintro e wa5 ⟨pwv, cwv, rfl, hwv, hbwv, -⟩)
    refine hK.out _ _ (by (first | with_reducible assumption | with_reducible exact San2.below (by with_reducible assumption) (by with_reducible assumption) | with_reducible exact San2.alloc (by with_reducible assumption) _)) (fun hHeld => ?_)
    clear hK K
    try simp only [List.setIfInBounds_toArray, List.set_cons_zero, List.set_cons_succ]
    refine wpAnyH_ready (rs := [24]) (by kernel_rfl) (by simp) ?_
    refine AllReadyH.cons (o := _) rfl (fun K hK => ?_) AllReadyH.nil
    go_simp
    (go_at_call 73; (with_reducible refine (sc_spsame [([97, 47], [97, 48]), ([98, 47], [98, 48])] (San2.s (by with_reducible assumption)) hwv (spans_below hbwv (new_sab wx rfl))).mono ?_); rintro e ws ⟨rfl, -, hbs⟩)
    refine hK.out _ _ (by (first | with_reducible assumption | with_reducible exact San2.below (by with_reducible assumption) (by with_reducible assumption) | with_reducible exact San2.alloc (by with_reducible assumption) _)) (fun hHeld => ?_)
    clear hK K
    try simp only [List.setIfInBounds_toArray, List.set_cons_zero, List.set_cons_succ]
    refine wpAnyH_take (i := 25) (oi := _) (v := ?_) rfl (by kernel_rfl) (by kernel_rfl) (by kernel_rfl) (fun _ _ _ h => h) (Or.inl ⟨by rfl, ?_⟩) (by with_reducible assumption) ?_
    rotate_left
    · intro wt hSw
      go_simp
      all_goals with_reducible rfl
    try simp only [Act.put, List.setIfInBounds_toArray, List.set_cons_zero, List.set_cons_succ]
    refine wpAnyH_take (i := 26) (oi := _) (v := ?_) rfl (by kernel_rfl) (by kernel_rfl) (by kernel_rfl) (fun _ _ _ h => h) (Or.inl ⟨by rfl, ?_⟩) (by with_reducible assumption) ?_
    rotate_left
    · intro wt hSw
      go_simp
      all_goals with_reducible rfl
    try simp only [Act.put, List.setIfInBounds_toArray, List.set_cons_zero, List.set_cons_succ]
    exact wpAnyH_listed (by kernel_rfl) (HN.out _ _ _ _ _ _ _ _ _ _ _ _ _ _ _ _ _ _ _ _ _ _ _ _ _ _ _ _ _ _ _ _ _ _ _ _ _ _ _ _ _ _ _ _ _ _ (by with_reducible assumption))
set_option maxRecDepth 1000000 in
set_option maxHeartbeats 16000000 in
theorem reg10_1 (w : World) (n0 n1 n2 n3 n4 n5 n6 k9 k10 : Nat) (s0 s1 s7 s8 s11 s12 s13 s14 s15 s16 s17 s18 s19 s20 s21 s22 s23 s24 s25 s26 s27 s28 s29 s30 s31 s32 s33 s34 s35 s36 s37 s38 s39 s40 s41 s42 s43 s44 s45 s46 s47 s48 s49 s50 s51 s52 s53 s54 s55 s56 s57 s58 s59 s60 s61 s62 s63 s64 s65 s66 s67 s68 s69 s70 s71 s72 s73 s74 s75 s76 s77 s78 s79 s80 s81 s82 s83 s84 s85 s132 s133 s134 s135 s136 s137 s138 s139 s140 s141 s142 s143 s144 s145 s146 s147 s148 s149 s150 s151 s152 s153 s154 s155 s156 s157 s158 s159 s160 s161 s162 s163 s164 s165 s166 s167 s168 s169 s170 s171 s172 s173 s174 s175 s176 s177 s178 s179 s180 s181 s182 s183 s184 s185 s186 s187 s188 s189 s190 s191 s192 s193 s194 s195 s196 s197 : Value) (Q : Exit → Act → World → Prop) (hQ : ∀ (u86 u87 u88 u89 u90 u91 u92 u93 u94 u95 u96 u97 u98 u99 u100 u101 u102 u103 u104 u105 u106 u107 u108 u109 u110 u111 u112 u113 u114 u115 u116 u117 u118 u119 u120 u121 u122 u123 u124 u125 u126 u127 u128 u129 u130 u131 : Value) (wx : World), San2 w n0 n1 n2 n3 n4 n5 n6 k9 k10 wx → Q .normal ⟨#[s0, s1, .pointer (some ⟨n1, 0, none⟩), .pointer (some ⟨n2, 0, none⟩), .pointer (some ⟨n3, 0, none⟩), .pointer (some ⟨n4, 0, none⟩), .pointer (some ⟨n5, 0, none⟩), s7, s8, .pointer (some ⟨k9, 0, none⟩), .pointer (some ⟨k10, 0, none⟩), .bool true, s12, s13, s14, s15, s16, s17, s18, s19, s20, s21, s22, s23, s24, s25, s26, s27, s28, s29, s30, s31, s32, s33, s34, s35, s36, s37, s38, s39, s40, s41, s42, s43, s44, s45, s46, s47, s48, s49, s50, s51, s52, s53, s54, s55, s56, s57, s58, s59, s60, s61, s62, s63, s64, s65, s66, s67, s68, s69, s70, s71, s72, s73, s74, s75, s76, s77, s78, s79, s80, s81, s82, s83, s84, s85, u86, u87, u88, u89, u90, u91, u92, u93, u94, u95, u96, u97, u98, u99, u100, u101, u102, u103, u104, u105, u106, u107, u108, u109, u110, u111, u112, u113, u114, u115, u116, u117, u118, u119, u120, u121, u122, u123, u124, u125, u126, u127, u128, u129, u130, u131, s132, s133, s134, s135, s136, s137, s138, s139, s140, s141, s142, s143, s144, s145, s146, s147, s148, s149, s150, s151, s152, s153, s154, s155, s156, s157, s158, s159, s160, s161, s162, s163, s164, s165, s166, s167, s168, s169, s170, s171, s172, s173, s174, s175, s176, s177, s178, s179, s180, s181, s182, s183, s184, s185, s186, s187, s188, s189, s190, s191, s192, s193, s194, s195, s196, s197], []⟩ wx)
    (s86 s87 s88 s89 s90 s91 s92 s93 s94 s95 s96 s98 s99 s100 s101 s102 s103 s104 s105 s106 s107 s108 s109 s110 s111 s112 s113 s114 s115 s116 s117 s118 s119 s120 s121 s122 s123 s124 s125 s126 s127 s128 s129 s130 s131 : Value) (wx : World) (hHeld : San2 w n0 n1 n2 n3 n4 n5 n6 k9 k10 wx) :
    wpAnyH Tryz.prog .any (codeOps reg10) (NoPanic Q) (fun wr => San2 w n0 n1 n2 n3 n4 n5 n6 k9 k10 wr) 35 #[true, true, true, true, true, true, true, true, true, true, true, true, false, false, false, false, false, false, false, false, false, false, false, false, false, false, false, false, false, false, false, false, false, false, false, false, false, false, false, false, false, false, false, false, false, false, false] ⟨#[s0, s1, .pointer (some ⟨n1, 0, none⟩), .pointer (some ⟨n2, 0, none⟩), .pointer (some ⟨n3, 0, none⟩), .pointer (some ⟨n4, 0, none⟩), .pointer (some ⟨n5, 0, none⟩), s7, s8, .pointer (some ⟨k9, 0, none⟩), .pointer (some ⟨k10, 0, none⟩), s11, s12, s13, s14, s15, s16, s17, s18, s19, s20, s21, s22, s23, s24, s25, s26, s27, s28, s29, s30, s31, s32, s33, s34, s35, s36, s37, s38, s39, s40, s41, s42, s43, s44, s45, s46, s47, s48, s49, s50, s51, s52, s53, s54, s55, s56, s57, s58, s59, s60, s61, s62, s63, s64, s65, s66, s67, s68, s69, s70, s71, s72, s73, s74, s75, s76, s77, s78, s79, s80, s81, s82, s83, s84, s85, s86, s87, s88, s89, s90, s91, s92, s93, s94, s95, s96, .bool true, s98, s99, s100, s101, s102, s103, s104, s105, s106, s107, s108, s109, s110, s111, s112, s113, s114, s115, s116, s117, s118, s119, s120, s121, s122, s123, s124, s125, s126, s127, s128, s129, s130, s131, s132, s133, s134, s135, s136, s137, s138, s139, s140, s141, s142, s143, s144, s145, s146, s147, s148, s149, s150, s151, s152, s153, s154, s155, s156, s157, s158, s159, s160, s161, s162, s163, s164, s165, s166, s167, s168, s169, s170, s171, s172, s173, s174, s175, s176, s177, s178, s179, s180, s181, s182, s183, s184, s185, s186, s187, s188, s189, s190, s191, s192, s193, s194, s195, s196, s197], []⟩ wx := by
  have HN := Lib.hid (reg10_2 w n0 n1 n2 n3 n4 n5 n6 k9 k10 s0 s1 s7 s8 s11 s12 s13 s14 s15 s16 s17 s18 s19 s20 s21 s22 s23 s24 s25 s26 s27 s28 s29 s30 s31 s32 s33 s34 s35 s36 s37 s38 s39 s40 s41 s42 s43 s44 s45 s46 s47 s48 s49 s50 s51 s52 s53 s54 s55 s56 s57 s58 s59 s60 s61 s62 s63 s64 s65 s66 s67 s68 s69 s70 s71 s72 s73 s74 s75 s76 s77 s78 s79 s80 s81 s82 s83 s84 s85 s132 s133 s134 s135 s136 s137 s138 s139 s140 s141 s142 s143 s144 s145 s146 s147 s148 s149 s150 s151 s152 s153 s154 s155 s156 s157 s158 s159 s160 s161 s162 s163 s164 s165 s166 s167 s168 s169 s170 s171 s172 s173 s174 s175 s176 s177 s178 s179 s180 s181 s182 s183 s184 s185 s186 s187 s188 s189 s190 s191 s192 s193 s194 s195 s196 s197 Q hQ)
  clear hQ
  conv => arg 3; arg 1; whnf
  dsimp only [codeOps]
  have p0 := fun wr (h : San2 w n0 n1 n2 n3 n4 n5 n6 k9 k10 wr) => h.s.cp.1
  have p1 := fun wr (h : San2 w n0 n1 n2 n3 n4 n5 n6 k9 k10 wr) => h.s.cp.2.1
  have p2 := fun wr (h : San2 w n0 n1 n2 n3 n4 n5 n6 k9 k10 wr) => h.s.cp.2.2.1
  have p3 := fun wr (h : San2 w n0 n1 n2 n3 n4 n5 n6 k9 k10 wr) => h.s.cp.2.2.2.1
  have p4 := fun wr (h : San2 w n0 n1 n2 n3 n4 n5 n6 k9 k10 wr) => h.s.cp.2.2.2.2.1
  have p5 := fun wr (h : San2 w n0 n1 n2 n3 n4 n5 n6 k9 k10 wr) => h.s.cp.2.2.2.2.2.1
  have p6 := fun wr (h : San2 w n0 n1 n2 n3 n4 n5 n6 k9 k10 wr) => h.s.cp.2.2.2.2.2.2.1
  have p7 := fun wr (h : San2 w n0 n1 n2 n3 n4 n5 n6 k9 k10 wr) => h.s.cp.2.2.2.2.2.2.2
  have v0 := fun wr (h : San2 w n0 n1 n2 n3 n4 n5 n6 k9 k10 wr) => h.s.cv.1
  have v1 := fun wr (h : San2 w n0 n1 n2 n3 n4 n5 n6 k9 k10 wr) => h.s.cv.2.1
  have v2 := fun wr (h : San2 w n0 n1 n2 n3 n4 n5 n6 k9 k10 wr) => h.s.cv.2.2.1
  have v3 := fun wr (h : San2 w n0 n1 n2 n3 n4 n5 n6 k9 k10 wr) => h.s.cv.2.2.2.1
  have v4 := fun wr (h : San2 w n0 n1 n2 n3 n4 n5 n6 k9 k10 wr) => h.s.cv.2.2.2.2.1
  have v5 := fun wr (h : San2 w n0 n1 n2 n3 n4 n5 n6 k9 k10 wr) => h.s.cv.2.2.2.2.2.1
  have v6 := fun wr (h : San2 w n0 n1 n2 n3 n4 n5 n6 k9 k10 wr) => h.s.cv.2.2.2.2.2.2.1
  have v7 := fun wr (h : San2 w n0 n1 n2 n3 n4 n5 n6 k9 k10 wr) => h.s.cv.2.2.2.2.2.2.2
  have c0 := fun wr (h : San2 w n0 n1 n2 n3 n4 n5 n6 k9 k10 wr) => h.s.cc.1
  have c1 := fun wr (h : San2 w n0 n1 n2 n3 n4 n5 n6 k9 k10 wr) => h.s.cc.2.1
  have c2 := fun wr (h : San2 w n0 n1 n2 n3 n4 n5 n6 k9 k10 wr) => h.s.cc.2.2.1
  have c3 := fun wr (h : San2 w n0 n1 n2 n3 n4 n5 n6 k9 k10 wr) => h.s.cc.2.2.2.1
  have c4 := fun wr (h : San2 w n0 n1 n2 n3 n4 n5 n6 k9 k10 wr) => h.s.cc.2.2.2.2.1
  have c5 := fun wr (h : San2 w n0 n1 n2 n3 n4 n5 n6 k9 k10 wr) => h.s.cc.2.2.2.2.2.1
  have c6 := fun wr (h : San2 w n0 n1 n2 n3 n4 n5 n6 k9 k10 wr) => h.s.cc.2.2.2.2.2.2.1
  have c7 := fun wr (h : San2 w n0 n1 n2 n3 n4 n5 n6 k9 k10 wr) => h.s.cc.2.2.2.2.2.2.2
  have s0 := fun wr (h : San2 w n0 n1 n2 n3 n4 n5 n6 k9 k10 wr) => h.s.cs.1
  have s1 := fun wr (h : San2 w n0 n1 n2 n3 n4 n5 n6 k9 k10 wr) => h.s.cs.2.1
  have s2 := fun wr (h : San2 w n0 n1 n2 n3 n4 n5 n6 k9 k10 wr) => h.s.cs.2.2.1
  have s3 := fun wr (h : San2 w n0 n1 n2 n3 n4 n5 n6 k9 k10 wr) => h.s.cs.2.2.2.1
  have s4 := fun wr (h : San2 w n0 n1 n2 n3 n4 n5 n6 k9 k10 wr) => h.s.cs.2.2.2.2.1
  have s5 := fun wr (h : San2 w n0 n1 n2 n3 n4 n5 n6 k9 k10 wr) => h.s.cs.2.2.2.2.2.1
  have s6 := fun wr (h : San2 w n0 n1 n2 n3 n4 n5 n6 k9 k10 wr) => h.s.cs.2.2.2.2.2.2.1
  have s7 := fun wr (h : San2 w n0 n1 n2 n3 n4 n5 n6 k9 k10 wr) => h.s.cs.2.2.2.2.2.2.2
  have x0 : ∀ wr, San2 w n0 n1 n2 n3 n4 n5 n6 k9 k10 wr → wr.cell? ⟨k9, 0, none⟩ = some (.string ⟨#[97, 47]⟩) := fun wr h => h.a.c0 0 _ rfl
  have x1 : ∀ wr, San2 w n0 n1 n2 n3 n4 n5 n6 k9 k10 wr → wr.cell? ⟨k9, 1, none⟩ = some (.string ⟨#[97, 48]⟩) := fun wr h => h.a.c0 1 _ rfl
  have y0 : ∀ wr, San2 w n0 n1 n2 n3 n4 n5 n6 k9 k10 wr → wr.cell? ⟨k10, 0, none⟩ = some (.string ⟨#[98, 47]⟩) := fun wr h => h.b.c0 0 _ rfl
  have y1 : ∀ wr, San2 w n0 n1 n2 n3 n4 n5 n6 k9 k10 wr → wr.cell? ⟨k10, 1, none⟩ = some (.string ⟨#[98, 48]⟩) := fun wr h => h.b.c0 1 _ rfl
  refine wpAnyH_take (i := 12) (oi := _) (v := ?_) rfl (by kernel_rfl) (by kernel_rfl) (by kernel_rfl) (fun _ _ _ h => h) (Or.inl ⟨by rfl, ?_⟩) (by with_reducible assumption) ?_
  rotate_left
  · intro wt hSw
    go_simp
    all_goals with_reducible rfl
  try simp only [Act.put, List.setIfInBounds_toArray, List.set_cons_zero, List.set_cons_succ]
  refine wpAnyH_take (i := 14) (oi := _) (v := ?_) rfl (by kernel_rfl) (by kernel_rfl) (by kernel_rfl) (fun _ _ _ h => h) (Or.inl ⟨by rfl, ?_⟩) (by with_reducible assumption) ?_
  rotate_left
  · intro wt hSw
    go_simp
    all_goals with_reducible rfl
  try simp only [Act.put, List.setIfInBounds_toArray, List.set_cons_zero, List.set_cons_succ]
  refine wpAnyH_ready (rs := [13, 15]) (by kernel_rfl) (by simp) ?_
  refine AllReadyH.cons (o := _) rfl (fun K hK => ?_) (AllReadyH.cons (o := _) rfl (fun K hK => ?_) AllReadyH.nil)
  · go_simp
    (go_at_call 40; (with_reducible refine (sc_readsV (San2.s (by assumption))).mono ?_); rintro e wa4 ⟨prv, crv, rfl, hrv, hbrv, -⟩)
    refine hK.out _ _ (by (first | with_reducible assumption | with_reducible exact San2.below (by with_reducible assumption) (by with_reducible assumption) | with_reducible exact San2.alloc (by with_reducible assumption) _)) (fun hHeld => ?_)
    clear hK K
    try simp only [List.setIfInBounds_toArray, List.set_cons_zero, List.set_cons_succ]
    refine wpAnyH_ready (rs := [15]) (by kernel_rfl) (by simp) ?_
    refine AllReadyH.cons (o := _) rfl (fun K hK => ?_) AllReadyH.nil
    go_simp
    refine hK.out _ _ (by (first | with_reducible assumption | with_reducible exact San2.below (by with_reducible assumption) (by with_reducible assumption) | with_reducible exact San2.alloc (by with_reducible assumption) _)) (fun hHeld => ?_)
    clear hK K
    try simp only [List.setIfInBounds_toArray, List.set_cons_zero, List.set_cons_succ]
    refine wpAnyH_ready (rs := [16]) (by kernel_rfl) (by simp) ?_
    refine AllReadyH.cons (o := _) rfl (fun K hK => ?_) AllReadyH.nil
    go_simp
    (go_at_call 73; (with_reducible refine (sc_spsame [([97, 47], [97, 48])] (San2.s (by with_reducible assumption)) (IsSpans.alloc hrv _) (new_sa _ rfl)).mono ?_); rintro e ws ⟨rfl, -, hbs⟩)
    refine hK.out _ _ (by (first | with_reducible assumption | with_reducible exact San2.below (by with_reducible assumption) (by with_reducible assumption) | with_reducible exact San2.alloc (by with_reducible assumption) _)) (fun hHeld => ?_)
    clear hK K
    try simp only [List.setIfInBounds_toArray, List.set_cons_zero, List.set_cons_succ]
    refine wpAnyH_take (i := 17) (oi := _) (v := ?_) rfl (by kernel_rfl) (by kernel_rfl) (by kernel_rfl) (fun _ _ _ h => h) (Or.inl ⟨by rfl, ?_⟩) (by with_reducible assumption) ?_
    rotate_left
    · intro wt hSw
      go_simp
      all_goals with_reducible rfl
    try simp only [Act.put, List.setIfInBounds_toArray, List.set_cons_zero, List.set_cons_succ]
    refine wpAnyH_take (i := 18) (oi := _) (v := ?_) rfl (by kernel_rfl) (by kernel_rfl) (by kernel_rfl) (fun _ _ _ h => h) (Or.inl ⟨by rfl, ?_⟩) (by with_reducible assumption) ?_
    rotate_left
    · intro wt hSw
      go_simp
      all_goals with_reducible rfl
    try simp only [Act.put, List.setIfInBounds_toArray, List.set_cons_zero, List.set_cons_succ]
    exact wpAnyH_listed (by kernel_rfl) (HN.out _ _ _ _ _ _ _ _ _ _ _ _ _ _ _ _ _ _ _ _ _ _ _ _ _ _ _ _ _ _ _ _ _ _ _ _ _ _ _ _ _ _ _ _ _ _ (by with_reducible assumption))
  · go_simp
    refine hK.out _ _ (by (first | with_reducible assumption | with_reducible exact San2.below (by with_reducible assumption) (by with_reducible assumption) | with_reducible exact San2.alloc (by with_reducible assumption) _)) (fun hHeld => ?_)
    clear hK K
    try simp only [List.setIfInBounds_toArray, List.set_cons_zero, List.set_cons_succ]
    refine wpAnyH_ready (rs := [13]) (by kernel_rfl) (by simp) ?_
    refine AllReadyH.cons (o := _) rfl (fun K hK => ?_) AllReadyH.nil
    go_simp
    (go_at_call 40; (with_reducible refine (sc_readsV (San2.s (by assumption))).mono ?_); rintro e wa4 ⟨prv, crv, rfl, hrv, hbrv, -⟩)
    refine hK.out _ _ (by (first | with_reducible assumption | with_reducible exact San2.below (by with_reducible assumption) (by with_reducible assumption) | with_reducible exact San2.alloc (by with_reducible assumption) _)) (fun hHeld => ?_)
    clear hK K
    try simp only [List.setIfInBounds_toArray, List.set_cons_zero, List.set_cons_succ]
    refine wpAnyH_ready (rs := [16]) (by kernel_rfl) (by simp) ?_
    refine AllReadyH.cons (o := _) rfl (fun K hK => ?_) AllReadyH.nil
    go_simp
    (go_at_call 73; (with_reducible refine (sc_spsame [([97, 47], [97, 48])] (San2.s (by with_reducible assumption)) hrv (spans_below hbrv (new_sa wx rfl))).mono ?_); rintro e ws ⟨rfl, -, hbs⟩)
    refine hK.out _ _ (by (first | with_reducible assumption | with_reducible exact San2.below (by with_reducible assumption) (by with_reducible assumption) | with_reducible exact San2.alloc (by with_reducible assumption) _)) (fun hHeld => ?_)
    clear hK K
    try simp only [List.setIfInBounds_toArray, List.set_cons_zero, List.set_cons_succ]
    refine wpAnyH_take (i := 17) (oi := _) (v := ?_) rfl (by kernel_rfl) (by kernel_rfl) (by kernel_rfl) (fun _ _ _ h => h) (Or.inl ⟨by rfl, ?_⟩) (by with_reducible assumption) ?_
    rotate_left
    · intro wt hSw
      go_simp
      all_goals with_reducible rfl
    try simp only [Act.put, List.setIfInBounds_toArray, List.set_cons_zero, List.set_cons_succ]
    refine wpAnyH_take (i := 18) (oi := _) (v := ?_) rfl (by kernel_rfl) (by kernel_rfl) (by kernel_rfl) (fun _ _ _ h => h) (Or.inl ⟨by rfl, ?_⟩) (by with_reducible assumption) ?_
    rotate_left
    · intro wt hSw
      go_simp
      all_goals with_reducible rfl
    try simp only [Act.put, List.setIfInBounds_toArray, List.set_cons_zero, List.set_cons_succ]
    exact wpAnyH_listed (by kernel_rfl) (HN.out _ _ _ _ _ _ _ _ _ _ _ _ _ _ _ _ _ _ _ _ _ _ _ _ _ _ _ _ _ _ _ _ _ _ _ _ _ _ _ _ _ _ _ _ _ _ (by with_reducible assumption))
set_option maxRecDepth 1000000 in
set_option maxHeartbeats 16000000 in
theorem reg10_0 (w : World) (n0 n1 n2 n3 n4 n5 n6 k9 k10 : Nat) (s0 s1 s7 s8 s11 s12 s13 s14 s15 s16 s17 s18 s19 s20 s21 s22 s23 s24 s25 s26 s27 s28 s29 s30 s31 s32 s33 s34 s35 s36 s37 s38 s39 s40 s41 s42 s43 s44 s45 s46 s47 s48 s49 s50 s51 s52 s53 s54 s55 s56 s57 s58 s59 s60 s61 s62 s63 s64 s65 s66 s67 s68 s69 s70 s71 s72 s73 s74 s75 s76 s77 s78 s79 s80 s81 s82 s83 s84 s85 s132 s133 s134 s135 s136 s137 s138 s139 s140 s141 s142 s143 s144 s145 s146 s147 s148 s149 s150 s151 s152 s153 s154 s155 s156 s157 s158 s159 s160 s161 s162 s163 s164 s165 s166 s167 s168 s169 s170 s171 s172 s173 s174 s175 s176 s177 s178 s179 s180 s181 s182 s183 s184 s185 s186 s187 s188 s189 s190 s191 s192 s193 s194 s195 s196 s197 : Value) (Q : Exit → Act → World → Prop) (hQ : ∀ (u86 u87 u88 u89 u90 u91 u92 u93 u94 u95 u96 u97 u98 u99 u100 u101 u102 u103 u104 u105 u106 u107 u108 u109 u110 u111 u112 u113 u114 u115 u116 u117 u118 u119 u120 u121 u122 u123 u124 u125 u126 u127 u128 u129 u130 u131 : Value) (wx : World), San2 w n0 n1 n2 n3 n4 n5 n6 k9 k10 wx → Q .normal ⟨#[s0, s1, .pointer (some ⟨n1, 0, none⟩), .pointer (some ⟨n2, 0, none⟩), .pointer (some ⟨n3, 0, none⟩), .pointer (some ⟨n4, 0, none⟩), .pointer (some ⟨n5, 0, none⟩), s7, s8, .pointer (some ⟨k9, 0, none⟩), .pointer (some ⟨k10, 0, none⟩), .bool true, s12, s13, s14, s15, s16, s17, s18, s19, s20, s21, s22, s23, s24, s25, s26, s27, s28, s29, s30, s31, s32, s33, s34, s35, s36, s37, s38, s39, s40, s41, s42, s43, s44, s45, s46, s47, s48, s49, s50, s51, s52, s53, s54, s55, s56, s57, s58, s59, s60, s61, s62, s63, s64, s65, s66, s67, s68, s69, s70, s71, s72, s73, s74, s75, s76, s77, s78, s79, s80, s81, s82, s83, s84, s85, u86, u87, u88, u89, u90, u91, u92, u93, u94, u95, u96, u97, u98, u99, u100, u101, u102, u103, u104, u105, u106, u107, u108, u109, u110, u111, u112, u113, u114, u115, u116, u117, u118, u119, u120, u121, u122, u123, u124, u125, u126, u127, u128, u129, u130, u131, s132, s133, s134, s135, s136, s137, s138, s139, s140, s141, s142, s143, s144, s145, s146, s147, s148, s149, s150, s151, s152, s153, s154, s155, s156, s157, s158, s159, s160, s161, s162, s163, s164, s165, s166, s167, s168, s169, s170, s171, s172, s173, s174, s175, s176, s177, s178, s179, s180, s181, s182, s183, s184, s185, s186, s187, s188, s189, s190, s191, s192, s193, s194, s195, s196, s197], []⟩ wx)
    (s86 s87 s88 s89 s90 s91 s92 s93 s94 s95 s96 s97 s98 s99 s100 s101 s102 s103 s104 s105 s106 s107 s108 s109 s110 s111 s112 s113 s114 s115 s116 s117 s118 s119 s120 s121 s122 s123 s124 s125 s126 s127 s128 s129 s130 s131 : Value) (wx : World) (hHeld : San2 w n0 n1 n2 n3 n4 n5 n6 k9 k10 wx) :
    wpAnyH Tryz.prog .any (codeOps reg10) (NoPanic Q) (fun wr => San2 w n0 n1 n2 n3 n4 n5 n6 k9 k10 wr) 47 #[false, false, false, false, false, false, false, false, false, false, false, false, false, false, false, false, false, false, false, false, false, false, false, false, false, false, false, false, false, false, false, false, false, false, false, false, false, false, false, false, false, false, false, false, false, false, false] ⟨#[s0, s1, .pointer (some ⟨n1, 0, none⟩), .pointer (some ⟨n2, 0, none⟩), .pointer (some ⟨n3, 0, none⟩), .pointer (some ⟨n4, 0, none⟩), .pointer (some ⟨n5, 0, none⟩), s7, s8, .pointer (some ⟨k9, 0, none⟩), .pointer (some ⟨k10, 0, none⟩), s11, s12, s13, s14, s15, s16, s17, s18, s19, s20, s21, s22, s23, s24, s25, s26, s27, s28, s29, s30, s31, s32, s33, s34, s35, s36, s37, s38, s39, s40, s41, s42, s43, s44, s45, s46, s47, s48, s49, s50, s51, s52, s53, s54, s55, s56, s57, s58, s59, s60, s61, s62, s63, s64, s65, s66, s67, s68, s69, s70, s71, s72, s73, s74, s75, s76, s77, s78, s79, s80, s81, s82, s83, s84, s85, s86, s87, s88, s89, s90, s91, s92, s93, s94, s95, s96, s97, s98, s99, s100, s101, s102, s103, s104, s105, s106, s107, s108, s109, s110, s111, s112, s113, s114, s115, s116, s117, s118, s119, s120, s121, s122, s123, s124, s125, s126, s127, s128, s129, s130, s131, s132, s133, s134, s135, s136, s137, s138, s139, s140, s141, s142, s143, s144, s145, s146, s147, s148, s149, s150, s151, s152, s153, s154, s155, s156, s157, s158, s159, s160, s161, s162, s163, s164, s165, s166, s167, s168, s169, s170, s171, s172, s173, s174, s175, s176, s177, s178, s179, s180, s181, s182, s183, s184, s185, s186, s187, s188, s189, s190, s191, s192, s193, s194, s195, s196, s197], []⟩ wx := by
  have HN := Lib.hid (reg10_1 w n0 n1 n2 n3 n4 n5 n6 k9 k10 s0 s1 s7 s8 s11 s12 s13 s14 s15 s16 s17 s18 s19 s20 s21 s22 s23 s24 s25 s26 s27 s28 s29 s30 s31 s32 s33 s34 s35 s36 s37 s38 s39 s40 s41 s42 s43 s44 s45 s46 s47 s48 s49 s50 s51 s52 s53 s54 s55 s56 s57 s58 s59 s60 s61 s62 s63 s64 s65 s66 s67 s68 s69 s70 s71 s72 s73 s74 s75 s76 s77 s78 s79 s80 s81 s82 s83 s84 s85 s132 s133 s134 s135 s136 s137 s138 s139 s140 s141 s142 s143 s144 s145 s146 s147 s148 s149 s150 s151 s152 s153 s154 s155 s156 s157 s158 s159 s160 s161 s162 s163 s164 s165 s166 s167 s168 s169 s170 s171 s172 s173 s174 s175 s176 s177 s178 s179 s180 s181 s182 s183 s184 s185 s186 s187 s188 s189 s190 s191 s192 s193 s194 s195 s196 s197 Q hQ)
  clear hQ
  conv => arg 3; arg 1; whnf
  dsimp only [codeOps]
  have p0 := fun wr (h : San2 w n0 n1 n2 n3 n4 n5 n6 k9 k10 wr) => h.s.cp.1
  have p1 := fun wr (h : San2 w n0 n1 n2 n3 n4 n5 n6 k9 k10 wr) => h.s.cp.2.1
  have p2 := fun wr (h : San2 w n0 n1 n2 n3 n4 n5 n6 k9 k10 wr) => h.s.cp.2.2.1
  have p3 := fun wr (h : San2 w n0 n1 n2 n3 n4 n5 n6 k9 k10 wr) => h.s.cp.2.2.2.1
  have p4 := fun wr (h : San2 w n0 n1 n2 n3 n4 n5 n6 k9 k10 wr) => h.s.cp.2.2.2.2.1
  have p5 := fun wr (h : San2 w n0 n1 n2 n3 n4 n5 n6 k9 k10 wr) => h.s.cp.2.2.2.2.2.1
  have p6 := fun wr (h : San2 w n0 n1 n2 n3 n4 n5 n6 k9 k10 wr) => h.s.cp.2.2.2.2.2.2.1
  have p7 := fun wr (h : San2 w n0 n1 n2 n3 n4 n5 n6 k9 k10 wr) => h.s.cp.2.2.2.2.2.2.2
  have v0 := fun wr (h : San2 w n0 n1 n2 n3 n4 n5 n6 k9 k10 wr) => h.s.cv.1
  have v1 := fun wr (h : San2 w n0 n1 n2 n3 n4 n5 n6 k9 k10 wr) => h.s.cv.2.1
  have v2 := fun wr (h : San2 w n0 n1 n2 n3 n4 n5 n6 k9 k10 wr) => h.s.cv.2.2.1
  have v3 := fun wr (h : San2 w n0 n1 n2 n3 n4 n5 n6 k9 k10 wr) => h.s.cv.2.2.2.1
  have v4 := fun wr (h : San2 w n0 n1 n2 n3 n4 n5 n6 k9 k10 wr) => h.s.cv.2.2.2.2.1
  have v5 := fun wr (h : San2 w n0 n1 n2 n3 n4 n5 n6 k9 k10 wr) => h.s.cv.2.2.2.2.2.1
  have v6 := fun wr (h : San2 w n0 n1 n2 n3 n4 n5 n6 k9 k10 wr) => h.s.cv.2.2.2.2.2.2.1
  have v7 := fun wr (h : San2 w n0 n1 n2 n3 n4 n5 n6 k9 k10 wr) => h.s.cv.2.2.2.2.2.2.2
  have c0 := fun wr (h : San2 w n0 n1 n2 n3 n4 n5 n6 k9 k10 wr) => h.s.cc.1
  have c1 := fun wr (h : San2 w n0 n1 n2 n3 n4 n5 n6 k9 k10 wr) => h.s.cc.2.1
  have c2 := fun wr (h : San2 w n0 n1 n2 n3 n4 n5 n6 k9 k10 wr) => h.s.cc.2.2.1
  have c3 := fun wr (h : San2 w n0 n1 n2 n3 n4 n5 n6 k9 k10 wr) => h.s.cc.2.2.2.1
  have c4 := fun wr (h : San2 w n0 n1 n2 n3 n4 n5 n6 k9 k10 wr) => h.s.cc.2.2.2.2.1
  have c5 := fun wr (h : San2 w n0 n1 n2 n3 n4 n5 n6 k9 k10 wr) => h.s.cc.2.2.2.2.2.1
  have c6 := fun wr (h : San2 w n0 n1 n2 n3 n4 n5 n6 k9 k10 wr) => h.s.cc.2.2.2.2.2.2.1
  have c7 := fun wr (h : San2 w n0 n1 n2 n3 n4 n5 n6 k9 k10 wr) => h.s.cc.2.2.2.2.2.2.2
  have s0 := fun wr (h : San2 w n0 n1 n2 n3 n4 n5 n6 k9 k10 wr) => h.s.cs.1
  have s1 := fun wr (h : San2 w n0 n1 n2 n3 n4 n5 n6 k9 k10 wr) => h.s.cs.2.1
  have s2 := fun wr (h : San2 w n0 n1 n2 n3 n4 n5 n6 k9 k10 wr) => h.s.cs.2.2.1
  have s3 := fun wr (h : San2 w n0 n1 n2 n3 n4 n5 n6 k9 k10 wr) => h.s.cs.2.2.2.1
  have s4 := fun wr (h : San2 w n0 n1 n2 n3 n4 n5 n6 k9 k10 wr) => h.s.cs.2.2.2.2.1
  have s5 := fun wr (h : San2 w n0 n1 n2 n3 n4 n5 n6 k9 k10 wr) => h.s.cs.2.2.2.2.2.1
  have s6 := fun wr (h : San2 w n0 n1 n2 n3 n4 n5 n6 k9 k10 wr) => h.s.cs.2.2.2.2.2.2.1
  have s7 := fun wr (h : San2 w n0 n1 n2 n3 n4 n5 n6 k9 k10 wr) => h.s.cs.2.2.2.2.2.2.2
  have x0 : ∀ wr, San2 w n0 n1 n2 n3 n4 n5 n6 k9 k10 wr → wr.cell? ⟨k9, 0, none⟩ = some (.string ⟨#[97, 47]⟩) := fun wr h => h.a.c0 0 _ rfl
  have x1 : ∀ wr, San2 w n0 n1 n2 n3 n4 n5 n6 k9 k10 wr → wr.cell? ⟨k9, 1, none⟩ = some (.string ⟨#[97, 48]⟩) := fun wr h => h.a.c0 1 _ rfl
  have y0 : ∀ wr, San2 w n0 n1 n2 n3 n4 n5 n6 k9 k10 wr → wr.cell? ⟨k10, 0, none⟩ = some (.string ⟨#[98, 47]⟩) := fun wr h => h.b.c0 0 _ rfl
  have y1 : ∀ wr, San2 w n0 n1 n2 n3 n4 n5 n6 k9 k10 wr → wr.cell? ⟨k10, 1, none⟩ = some (.string ⟨#[98, 48]⟩) := fun wr h => h.b.c0 1 _ rfl
  refine wpAnyH_take (i := 0) (oi := _) (v := ?_) rfl (by kernel_rfl) (by kernel_rfl) (by kernel_rfl) (fun _ _ _ h => h) (Or.inl ⟨by rfl, ?_⟩) (by with_reducible assumption) ?_
  rotate_left
  · intro wt hSw
    go_simp
    all_goals with_reducible rfl
  try simp only [Act.put, List.setIfInBounds_toArray, List.set_cons_zero]
  refine wpAnyH_ready (rs := [1]) (by kernel_rfl) (by simp) ?_
  refine AllReadyH.cons (o := _) rfl (fun K hK => ?_) AllReadyH.nil
  go_simp
  (go_at_call 40; (with_reducible refine (sc_readsP (San2.s (by assumption))).mono ?_); rintro e wa1 ⟨pra, cra, rfl, hra, hbra, -⟩)
  refine hK.out _ _ (by (first | with_reducible assumption | with_reducible exact San2.below (by with_reducible assumption) (by with_reducible assumption) | with_reducible exact San2.alloc (by with_reducible assumption) _)) (fun hHeld => ?_)
  clear hK K
  try simp only [List.setIfInBounds_toArray, List.set_cons_zero, List.set_cons_succ]
  refine wpAnyH_take (i := 2) (oi := _) (v := ?_) rfl (by kernel_rfl) (by kernel_rfl) (by kernel_rfl) (fun _ _ _ h => h) (Or.inl ⟨by rfl, ?_⟩) (by with_reducible assumption) ?_
  rotate_left
  · intro wt hSw
    go_simp
    all_goals with_reducible rfl
  try simp only [Act.put, List.setIfInBounds_toArray, List.set_cons_zero, List.set_cons_succ]
  refine wpAnyH_take (i := 3) (oi := _) (v := ?_) rfl (by kernel_rfl) (by kernel_rfl) (by kernel_rfl) (fun _ _ _ h => h) (Or.inl ⟨by rfl, ?_⟩) (by with_reducible assumption) ?_
  rotate_left
  · intro wt hSw
    go_simp
    all_goals with_reducible rfl
  try simp only [Act.put, List.setIfInBounds_toArray, List.set_cons_zero, List.set_cons_succ]
  refine wpAnyH_take (i := 4) (oi := _) (v := ?_) rfl (by kernel_rfl) (by kernel_rfl) (by kernel_rfl) (fun _ _ _ h => h) (Or.inl ⟨by rfl, ?_⟩) (by with_reducible assumption) ?_
  rotate_left
  · intro wt hSw
    go_simp
    all_goals with_reducible rfl
  try simp only [Act.put, List.setIfInBounds_toArray, List.set_cons_zero, List.set_cons_succ]
  refine wpAnyH_take (i := 5) (oi := _) (v := ?_) rfl (by kernel_rfl) (by kernel_rfl) (by kernel_rfl) (fun _ _ _ h => h) (Or.inl ⟨by rfl, ?_⟩) (by with_reducible assumption) ?_
  rotate_left
  · intro wt hSw
    go_simp
    all_goals with_reducible rfl
  try simp only [Act.put, List.setIfInBounds_toArray, List.set_cons_zero, List.set_cons_succ]
  refine wpAnyH_ready (rs := [6]) (by kernel_rfl) (by simp) ?_
  refine AllReadyH.cons (o := _) rfl (fun K hK => ?_) AllReadyH.nil
  go_simp
  (go_at_call 41; (with_reducible refine (sc_writesP (San2.s (by assumption))).mono ?_); rintro e wa2 ⟨pwp, cwp, rfl, hwp, hbwp, -⟩)
  refine hK.out _ _ (by (first | with_reducible assumption | with_reducible exact San2.below (by with_reducible assumption) (by with_reducible assumption) | with_reducible exact San2.alloc (by with_reducible assumption) _)) (fun hHeld => ?_)
  clear hK K
  try simp only [List.setIfInBounds_toArray, List.set_cons_zero, List.set_cons_succ]
  refine wpAnyH_ready (rs := [7]) (by kernel_rfl) (by simp) ?_
  refine AllReadyH.cons (o := _) rfl (fun K hK => ?_) AllReadyH.nil
  go_simp
  (go_at_call 66; (with_reducible refine (sc_one _).mono ?_); rintro e wa3 ⟨rfl, hb1⟩; have hwp1 := spans_below hb1 hwp)
  refine hK.out _ _ (by (first | with_reducible assumption | with_reducible exact San2.below (by with_reducible assumption) (by with_reducible assumption) | with_reducible exact San2.alloc (by with_reducible assumption) _)) (fun hHeld => ?_)
  clear hK K
  try simp only [List.setIfInBounds_toArray, List.set_cons_zero, List.set_cons_succ]
  refine wpAnyH_ready (rs := [8]) (by kernel_rfl) (by simp) ?_
  refine AllReadyH.cons (o := _) rfl (fun K hK => ?_) AllReadyH.nil
  go_simp
  refine hK.out _ _ (by (first | with_reducible assumption | with_reducible exact San2.below (by with_reducible assumption) (by with_reducible assumption) | with_reducible exact San2.alloc (by with_reducible assumption) _)) (fun hHeld => ?_)
  clear hK K
  try simp only [List.setIfInBounds_toArray, List.set_cons_zero, List.set_cons_succ]
  refine wpAnyH_ready (rs := [9]) (by kernel_rfl) (by simp) ?_
  refine AllReadyH.cons (o := _) rfl (fun K hK => ?_) AllReadyH.nil
  go_simp
  (go_at_call 73; (with_reducible refine (sc_spsame [([97, 47, 122], [97, 47, 122, 0])] (San2.s (by with_reducible assumption)) (IsSpans.alloc hwp1 _) (new_so _ rfl)).mono ?_); rintro e ws ⟨rfl, -, hbs⟩)
  refine hK.out _ _ (by (first | with_reducible assumption | with_reducible exact San2.below (by with_reducible assumption) (by with_reducible assumption) | with_reducible exact San2.alloc (by with_reducible assumption) _)) (fun hHeld => ?_)
  clear hK K
  try simp only [List.setIfInBounds_toArray, List.set_cons_zero, List.set_cons_succ]
  refine wpAnyH_take (i := 10) (oi := _) (v := ?_) rfl (by kernel_rfl) (by kernel_rfl) (by kernel_rfl) (fun _ _ _ h => h) (Or.inl ⟨by rfl, ?_⟩) (by with_reducible assumption) ?_
  rotate_left
  · intro wt hSw
    go_simp
    all_goals with_reducible rfl
  try simp only [Act.put, List.setIfInBounds_toArray, List.set_cons_zero, List.set_cons_succ]
  refine wpAnyH_take (i := 11) (oi := _) (v := ?_) rfl (by kernel_rfl) (by kernel_rfl) (by kernel_rfl) (fun _ _ _ h => h) (Or.inl ⟨by rfl, ?_⟩) (by with_reducible assumption) ?_
  rotate_left
  · intro wt hSw
    go_simp
    all_goals with_reducible rfl
  try simp only [Act.put, List.setIfInBounds_toArray, List.set_cons_zero, List.set_cons_succ]
  exact wpAnyH_listed (by kernel_rfl) (HN.out _ _ _ _ _ _ _ _ _ _ _ _ _ _ _ _ _ _ _ _ _ _ _ _ _ _ _ _ _ _ _ _ _ _ _ _ _ _ _ _ _ _ _ _ _ _ (by with_reducible assumption))
set_option maxRecDepth 1000000 in
set_option maxHeartbeats 16000000 in
theorem reg10_w (w : World) (n0 n1 n2 n3 n4 n5 n6 k9 k10 : Nat) (wa : World) (hS : San2 w n0 n1 n2 n3 n4 n5 n6 k9 k10 wa) (s0 s1 s7 s8 s11 s12 s13 s14 s15 s16 s17 s18 s19 s20 s21 s22 s23 s24 s25 s26 s27 s28 s29 s30 s31 s32 s33 s34 s35 s36 s37 s38 s39 s40 s41 s42 s43 s44 s45 s46 s47 s48 s49 s50 s51 s52 s53 s54 s55 s56 s57 s58 s59 s60 s61 s62 s63 s64 s65 s66 s67 s68 s69 s70 s71 s72 s73 s74 s75 s76 s77 s78 s79 s80 s81 s82 s83 s84 s85 s86 s87 s88 s89 s90 s91 s92 s93 s94 s95 s96 s97 s98 s99 s100 s101 s102 s103 s104 s105 s106 s107 s108 s109 s110 s111 s112 s113 s114 s115 s116 s117 s118 s119 s120 s121 s122 s123 s124 s125 s126 s127 s128 s129 s130 s131 s132 s133 s134 s135 s136 s137 s138 s139 s140 s141 s142 s143 s144 s145 s146 s147 s148 s149 s150 s151 s152 s153 s154 s155 s156 s157 s158 s159 s160 s161 s162 s163 s164 s165 s166 s167 s168 s169 s170 s171 s172 s173 s174 s175 s176 s177 s178 s179 s180 s181 s182 s183 s184 s185 s186 s187 s188 s189 s190 s191 s192 s193 s194 s195 s196 s197 : Value) (Q : Exit → Act → World → Prop)
    (hQ : ∀ (u86 u87 u88 u89 u90 u91 u92 u93 u94 u95 u96 u97 u98 u99 u100 u101 u102 u103 u104 u105 u106 u107 u108 u109 u110 u111 u112 u113 u114 u115 u116 u117 u118 u119 u120 u121 u122 u123 u124 u125 u126 u127 u128 u129 u130 u131 : Value) (wx : World), San2 w n0 n1 n2 n3 n4 n5 n6 k9 k10 wx → Q .normal ⟨#[s0, s1, .pointer (some ⟨n1, 0, none⟩), .pointer (some ⟨n2, 0, none⟩), .pointer (some ⟨n3, 0, none⟩), .pointer (some ⟨n4, 0, none⟩), .pointer (some ⟨n5, 0, none⟩), s7, s8, .pointer (some ⟨k9, 0, none⟩), .pointer (some ⟨k10, 0, none⟩), .bool true, s12, s13, s14, s15, s16, s17, s18, s19, s20, s21, s22, s23, s24, s25, s26, s27, s28, s29, s30, s31, s32, s33, s34, s35, s36, s37, s38, s39, s40, s41, s42, s43, s44, s45, s46, s47, s48, s49, s50, s51, s52, s53, s54, s55, s56, s57, s58, s59, s60, s61, s62, s63, s64, s65, s66, s67, s68, s69, s70, s71, s72, s73, s74, s75, s76, s77, s78, s79, s80, s81, s82, s83, s84, s85, u86, u87, u88, u89, u90, u91, u92, u93, u94, u95, u96, u97, u98, u99, u100, u101, u102, u103, u104, u105, u106, u107, u108, u109, u110, u111, u112, u113, u114, u115, u116, u117, u118, u119, u120, u121, u122, u123, u124, u125, u126, u127, u128, u129, u130, u131, s132, s133, s134, s135, s136, s137, s138, s139, s140, s141, s142, s143, s144, s145, s146, s147, s148, s149, s150, s151, s152, s153, s154, s155, s156, s157, s158, s159, s160, s161, s162, s163, s164, s165, s166, s167, s168, s169, s170, s171, s172, s173, s174, s175, s176, s177, s178, s179, s180, s181, s182, s183, s184, s185, s186, s187, s188, s189, s190, s191, s192, s193, s194, s195, s196, s197], []⟩ wx) :
    reg10.wp Tryz.prog Q ⟨#[s0, s1, .pointer (some ⟨n1, 0, none⟩), .pointer (some ⟨n2, 0, none⟩), .pointer (some ⟨n3, 0, none⟩), .pointer (some ⟨n4, 0, none⟩), .pointer (some ⟨n5, 0, none⟩), s7, s8, .pointer (some ⟨k9, 0, none⟩), .pointer (some ⟨k10, 0, none⟩), s11, s12, s13, s14, s15, s16, s17, s18, s19, s20, s21, s22, s23, s24, s25, s26, s27, s28, s29, s30, s31, s32, s33, s34, s35, s36, s37, s38, s39, s40, s41, s42, s43, s44, s45, s46, s47, s48, s49, s50, s51, s52, s53, s54, s55, s56, s57, s58, s59, s60, s61, s62, s63, s64, s65, s66, s67, s68, s69, s70, s71, s72, s73, s74, s75, s76, s77, s78, s79, s80, s81, s82, s83, s84, s85, s86, s87, s88, s89, s90, s91, s92, s93, s94, s95, s96, s97, s98, s99, s100, s101, s102, s103, s104, s105, s106, s107, s108, s109, s110, s111, s112, s113, s114, s115, s116, s117, s118, s119, s120, s121, s122, s123, s124, s125, s126, s127, s128, s129, s130, s131, s132, s133, s134, s135, s136, s137, s138, s139, s140, s141, s142, s143, s144, s145, s146, s147, s148, s149, s150, s151, s152, s153, s154, s155, s156, s157, s158, s159, s160, s161, s162, s163, s164, s165, s166, s167, s168, s169, s170, s171, s172, s173, s174, s175, s176, s177, s178, s179, s180, s181, s182, s183, s184, s185, s186, s187, s188, s189, s190, s191, s192, s193, s194, s195, s196, s197], []⟩ wa := by
  have h0 := reg10_0 w n0 n1 n2 n3 n4 n5 n6 k9 k10 s0 s1 s7 s8 s11 s12 s13 s14 s15 s16 s17 s18 s19 s20 s21 s22 s23 s24 s25 s26 s27 s28 s29 s30 s31 s32 s33 s34 s35 s36 s37 s38 s39 s40 s41 s42 s43 s44 s45 s46 s47 s48 s49 s50 s51 s52 s53 s54 s55 s56 s57 s58 s59 s60 s61 s62 s63 s64 s65 s66 s67 s68 s69 s70 s71 s72 s73 s74 s75 s76 s77 s78 s79 s80 s81 s82 s83 s84 s85 s132 s133 s134 s135 s136 s137 s138 s139 s140 s141 s142 s143 s144 s145 s146 s147 s148 s149 s150 s151 s152 s153 s154 s155 s156 s157 s158 s159 s160 s161 s162 s163 s164 s165 s166 s167 s168 s169 s170 s171 s172 s173 s174 s175 s176 s177 s178 s179 s180 s181 s182 s183 s184 s185 s186 s187 s188 s189 s190 s191 s192 s193 s194 s195 s196 s197 Q hQ
  conv => arg 2; whnf
  refine wp_region_noPanic ?_
  refine wp_region_held_drew (S := fun wr => San2 w n0 n1 n2 n3 n4 n5 n6 k9 k10 wr) (by kernel_rfl) hS.drew (fun hHeld => ?_)
  exact wpAnyH_listed (by kernel_rfl) (h0 _ _ _ _ _ _ _ _ _ _ _ _ _ _ _ _ _ _ _ _ _ _ _ _ _ _ _ _ _ _ _ _ _ _ _ _ _ _ _ _ _ _ _ _ _ _ _ hHeld)

end Go.Proofs.YtaafckefeejjpaaGreat

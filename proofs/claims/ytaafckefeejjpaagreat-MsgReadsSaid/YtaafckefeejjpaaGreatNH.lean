/-
  Walks: region 8 of the fixed examples.
-/
import Derived.Test.YtaafckefeejjpaaGreatNG
namespace Go.Proofs.YtaafckefeejjpaaGreat
open Go.RowKit Go.Sort
set_option linter.unusedVariables false
attribute [local go_sem ↓] Go.wp_at_zero Go.wp_at_succ

noncomputable def reg8 : Code := ((Tryz.f33.body.bind (codeReg 8)).getD .skip)
set_option maxRecDepth 1000000 in
set_option maxHeartbeats 16000000 in
theorem reg8_w (w wa : World) (n0 n1 n2 n3 n4 n5 n6 : Nat) (hS : SanSt w n0 n1 n2 n3 n4 n5 n6 wa) (s0 s8 s9 s10 s11 s12 s13 s14 s15 s16 s17 s18 s19 s20 s21 s22 s23 s24 s25 s26 s27 s28 s29 s30 s31 s32 s33 s34 s35 s36 s37 s38 s39 s40 s41 s42 s43 s44 s45 s46 s47 s48 s49 s50 s51 s52 s53 s54 s55 s56 s57 s58 s59 s60 s61 s62 s63 s64 s65 s66 s67 s68 s69 s70 s71 s72 s73 s74 s75 s76 s77 s78 s79 s80 s81 s82 s83 s84 s85 s86 s87 s88 s89 s90 s91 s92 s93 s94 s95 s96 s97 s98 s99 s100 s101 s102 s103 s104 s105 s106 s107 s108 s109 s110 s111 s112 s113 s114 s115 s116 s117 s118 s119 s120 s121 s122 s123 s124 s125 s126 s127 s128 s129 s130 s131 s132 s133 s134 s135 s136 s137 s138 s139 s140 s141 s142 s143 s144 s145 s146 s147 s148 s149 s150 s151 s152 s153 s154 s155 s156 s157 s158 s159 s160 s161 s162 s163 s164 s165 s166 s167 s168 s169 s170 s171 s172 s173 s174 s175 s176 s177 s178 s179 s180 s181 s182 s183 s184 s185 s186 s187 s188 s189 s190 s191 s192 s193 s194 s195 s196 s197 : Value) (Q : Exit → Act → World → Prop)
    (hQ : ∀ (t30 t31 t32 t33 t34 t35 t36 t37 t38 t39 t40 t41 t42 t43 t44 t45 t46 t47 t48 t49 t50 t51 t52 t53 t54 t55 t56 t57 t58 t59 t60 t61 t62 t63 t64 t65 t66 t67 t68 t69 t70 t71 t72 t73 t74 t75 t76 t77 t78 t79 t80 t81 t82 t83 : Value) (wx : World), SanSt w n0 n1 n2 n3 n4 n5 n6 wx → Q .normal ⟨#[s0, .slice (some ⟨n0, 0, none⟩) 3 3, .pointer (some ⟨n1, 0, none⟩), .pointer (some ⟨n2, 0, none⟩), .pointer (some ⟨n3, 0, none⟩), .pointer (some ⟨n4, 0, none⟩), .pointer (some ⟨n5, 0, none⟩), .slice (some ⟨n6, 0, none⟩) 2 2, .bool true, s9, s10, s11, s12, s13, s14, s15, s16, s17, s18, s19, s20, s21, s22, s23, s24, s25, s26, s27, s28, s29, t30, t31, t32, t33, t34, t35, t36, t37, t38, t39, t40, t41, t42, t43, t44, t45, t46, t47, t48, t49, t50, t51, t52, t53, t54, t55, t56, t57, t58, t59, t60, t61, t62, t63, t64, t65, t66, t67, t68, t69, t70, t71, t72, t73, t74, t75, t76, t77, t78, t79, t80, t81, t82, t83, s84, s85, s86, s87, s88, s89, s90, s91, s92, s93, s94, s95, s96, s97, s98, s99, s100, s101, s102, s103, s104, s105, s106, s107, s108, s109, s110, s111, s112, s113, s114, s115, s116, s117, s118, s119, s120, s121, s122, s123, s124, s125, s126, s127, s128, s129, s130, s131, s132, s133, s134, s135, s136, s137, s138, s139, s140, s141, s142, s143, s144, s145, s146, s147, s148, s149, s150, s151, s152, s153, s154, s155, s156, s157, s158, s159, s160, s161, s162, s163, s164, s165, s166, s167, s168, s169, s170, s171, s172, s173, s174, s175, s176, s177, s178, s179, s180, s181, s182, s183, s184, s185, s186, s187, s188, s189, s190, s191, s192, s193, s194, s195, s196, s197], []⟩ wx) :
    reg8.wp Tryz.prog Q ⟨#[s0, .slice (some ⟨n0, 0, none⟩) 3 3, .pointer (some ⟨n1, 0, none⟩), .pointer (some ⟨n2, 0, none⟩), .pointer (some ⟨n3, 0, none⟩), .pointer (some ⟨n4, 0, none⟩), .pointer (some ⟨n5, 0, none⟩), .slice (some ⟨n6, 0, none⟩) 2 2, s8, s9, s10, s11, s12, s13, s14, s15, s16, s17, s18, s19, s20, s21, s22, s23, s24, s25, s26, s27, s28, s29, s30, s31, s32, s33, s34, s35, s36, s37, s38, s39, s40, s41, s42, s43, s44, s45, s46, s47, s48, s49, s50, s51, s52, s53, s54, s55, s56, s57, s58, s59, s60, s61, s62, s63, s64, s65, s66, s67, s68, s69, s70, s71, s72, s73, s74, s75, s76, s77, s78, s79, s80, s81, s82, s83, s84, s85, s86, s87, s88, s89, s90, s91, s92, s93, s94, s95, s96, s97, s98, s99, s100, s101, s102, s103, s104, s105, s106, s107, s108, s109, s110, s111, s112, s113, s114, s115, s116, s117, s118, s119, s120, s121, s122, s123, s124, s125, s126, s127, s128, s129, s130, s131, s132, s133, s134, s135, s136, s137, s138, s139, s140, s141, s142, s143, s144, s145, s146, s147, s148, s149, s150, s151, s152, s153, s154, s155, s156, s157, s158, s159, s160, s161, s162, s163, s164, s165, s166, s167, s168, s169, s170, s171, s172, s173, s174, s175, s176, s177, s178, s179, s180, s181, s182, s183, s184, s185, s186, s187, s188, s189, s190, s191, s192, s193, s194, s195, s196, s197], []⟩ wa := by
  conv => arg 2; whnf
  have HS : Hid (SanSt w n0 n1 n2 n3 n4 n5 n6 wa) := Lib.hid hS
  have HQ := Lib.hid hQ
  clear hS hQ
  have t0 := fun wr (h : SanSt w n0 n1 n2 n3 n4 n5 n6 wr) => h.ct.1
  have t1 := fun wr (h : SanSt w n0 n1 n2 n3 n4 n5 n6 wr) => h.ct.2.1
  have t2 := fun wr (h : SanSt w n0 n1 n2 n3 n4 n5 n6 wr) => h.ct.2.2.1
  have t3 := fun wr (h : SanSt w n0 n1 n2 n3 n4 n5 n6 wr) => h.ct.2.2.2.1
  have t4 := fun wr (h : SanSt w n0 n1 n2 n3 n4 n5 n6 wr) => h.ct.2.2.2.2.1
  have t5 := fun wr (h : SanSt w n0 n1 n2 n3 n4 n5 n6 wr) => h.ct.2.2.2.2.2.1
  have t6 := fun wr (h : SanSt w n0 n1 n2 n3 n4 n5 n6 wr) => h.ct.2.2.2.2.2.2.1
  have t7 := fun wr (h : SanSt w n0 n1 n2 n3 n4 n5 n6 wr) => h.ct.2.2.2.2.2.2.2.1
  have t8 := fun wr (h : SanSt w n0 n1 n2 n3 n4 n5 n6 wr) => h.ct.2.2.2.2.2.2.2.2
  have p0 := fun wr (h : SanSt w n0 n1 n2 n3 n4 n5 n6 wr) => h.cp.1
  have p1 := fun wr (h : SanSt w n0 n1 n2 n3 n4 n5 n6 wr) => h.cp.2.1
  have p2 := fun wr (h : SanSt w n0 n1 n2 n3 n4 n5 n6 wr) => h.cp.2.2.1
  have p3 := fun wr (h : SanSt w n0 n1 n2 n3 n4 n5 n6 wr) => h.cp.2.2.2.1
  have p4 := fun wr (h : SanSt w n0 n1 n2 n3 n4 n5 n6 wr) => h.cp.2.2.2.2.1
  have p5 := fun wr (h : SanSt w n0 n1 n2 n3 n4 n5 n6 wr) => h.cp.2.2.2.2.2.1
  have p6 := fun wr (h : SanSt w n0 n1 n2 n3 n4 n5 n6 wr) => h.cp.2.2.2.2.2.2.1
  have p7 := fun wr (h : SanSt w n0 n1 n2 n3 n4 n5 n6 wr) => h.cp.2.2.2.2.2.2.2
  have d0 := fun wr (h : SanSt w n0 n1 n2 n3 n4 n5 n6 wr) => h.cd.1
  have d1 := fun wr (h : SanSt w n0 n1 n2 n3 n4 n5 n6 wr) => h.cd.2.1
  have d2 := fun wr (h : SanSt w n0 n1 n2 n3 n4 n5 n6 wr) => h.cd.2.2.1
  have d3 := fun wr (h : SanSt w n0 n1 n2 n3 n4 n5 n6 wr) => h.cd.2.2.2.1
  have d4 := fun wr (h : SanSt w n0 n1 n2 n3 n4 n5 n6 wr) => h.cd.2.2.2.2.1
  have d5 := fun wr (h : SanSt w n0 n1 n2 n3 n4 n5 n6 wr) => h.cd.2.2.2.2.2.1
  have d6 := fun wr (h : SanSt w n0 n1 n2 n3 n4 n5 n6 wr) => h.cd.2.2.2.2.2.2.1
  have d7 := fun wr (h : SanSt w n0 n1 n2 n3 n4 n5 n6 wr) => h.cd.2.2.2.2.2.2.2
  have v0 := fun wr (h : SanSt w n0 n1 n2 n3 n4 n5 n6 wr) => h.cv.1
  have v1 := fun wr (h : SanSt w n0 n1 n2 n3 n4 n5 n6 wr) => h.cv.2.1
  have v2 := fun wr (h : SanSt w n0 n1 n2 n3 n4 n5 n6 wr) => h.cv.2.2.1
  have v3 := fun wr (h : SanSt w n0 n1 n2 n3 n4 n5 n6 wr) => h.cv.2.2.2.1
  have v4 := fun wr (h : SanSt w n0 n1 n2 n3 n4 n5 n6 wr) => h.cv.2.2.2.2.1
  have v5 := fun wr (h : SanSt w n0 n1 n2 n3 n4 n5 n6 wr) => h.cv.2.2.2.2.2.1
  have v6 := fun wr (h : SanSt w n0 n1 n2 n3 n4 n5 n6 wr) => h.cv.2.2.2.2.2.2.1
  have v7 := fun wr (h : SanSt w n0 n1 n2 n3 n4 n5 n6 wr) => h.cv.2.2.2.2.2.2.2
  have c0 := fun wr (h : SanSt w n0 n1 n2 n3 n4 n5 n6 wr) => h.cc.1
  have c1 := fun wr (h : SanSt w n0 n1 n2 n3 n4 n5 n6 wr) => h.cc.2.1
  have c2 := fun wr (h : SanSt w n0 n1 n2 n3 n4 n5 n6 wr) => h.cc.2.2.1
  have c3 := fun wr (h : SanSt w n0 n1 n2 n3 n4 n5 n6 wr) => h.cc.2.2.2.1
  have c4 := fun wr (h : SanSt w n0 n1 n2 n3 n4 n5 n6 wr) => h.cc.2.2.2.2.1
  have c5 := fun wr (h : SanSt w n0 n1 n2 n3 n4 n5 n6 wr) => h.cc.2.2.2.2.2.1
  have c6 := fun wr (h : SanSt w n0 n1 n2 n3 n4 n5 n6 wr) => h.cc.2.2.2.2.2.2.1
  have c7 := fun wr (h : SanSt w n0 n1 n2 n3 n4 n5 n6 wr) => h.cc.2.2.2.2.2.2.2
  have s0 := fun wr (h : SanSt w n0 n1 n2 n3 n4 n5 n6 wr) => h.cs.1
  have s1 := fun wr (h : SanSt w n0 n1 n2 n3 n4 n5 n6 wr) => h.cs.2.1
  have s2 := fun wr (h : SanSt w n0 n1 n2 n3 n4 n5 n6 wr) => h.cs.2.2.1
  have s3 := fun wr (h : SanSt w n0 n1 n2 n3 n4 n5 n6 wr) => h.cs.2.2.2.1
  have s4 := fun wr (h : SanSt w n0 n1 n2 n3 n4 n5 n6 wr) => h.cs.2.2.2.2.1
  have s5 := fun wr (h : SanSt w n0 n1 n2 n3 n4 n5 n6 wr) => h.cs.2.2.2.2.2.1
  have s6 := fun wr (h : SanSt w n0 n1 n2 n3 n4 n5 n6 wr) => h.cs.2.2.2.2.2.2.1
  have s7 := fun wr (h : SanSt w n0 n1 n2 n3 n4 n5 n6 wr) => h.cs.2.2.2.2.2.2.2
  try dsimp only [List.append]
  go_region_held3 (fun wr => SanSt w n0 n1 n2 n3 n4 n5 n6 wr) (first | with_reducible assumption | exact SanSt.alloc (by with_reducible assumption) _ | exact HS.out.drew)
    (first
      | (go_at_call 47; (with_reducible refine (sc_applyP (by assumption)).mono ?_); rintro e wu ⟨vu, rfl, hpu, hbu, hsu⟩; first | (have hlu := pairs_below hbu (by with_reducible exact (new_lP wa rfl).drew)) | skip)
      | (go_at_call 47; (with_reducible refine (sc_applyD (by assumption)).mono ?_); rintro e wv ⟨vv, rfl, hpv, hbv, hsv⟩)
      | (go_at_call 47; (with_reducible refine (sc_applyV (by assumption)).mono ?_); rintro e wx ⟨vx, rfl, hpx, hbx, hsx⟩)
      | (go_at_call 47; (with_reducible refine (sc_applyC (by assumption)).mono ?_); rintro e wy ⟨vy, rfl, hpy, hby, hsy⟩; first | (have hcy := pairs_below hby hpc) | skip)
      | (go_at_call 47; (with_reducible refine (sc_applyS (by assumption)).mono ?_); rintro e wz ⟨vz, rfl, hpz, hbz, hsz⟩; first | (have hlz := pairs_below hbz (by with_reducible exact new_lS ws4 rfl)) | skip)
      | (go_at_call 46; (with_reducible refine (sc_same lP (by with_reducible assumption) (by first | with_reducible assumption | with_reducible exact IsPairs.alloc hpu _) (by first | with_reducible assumption | with_reducible exact new_lP _ rfl)).mono ?_); rintro e ws1 ⟨rfl, hss1⟩)
      | (go_at_call 46; (with_reducible refine (sc_same lD (by with_reducible assumption) (by with_reducible assumption) (by exact SanSt.tail (by with_reducible assumption))).mono ?_); rintro e ws2 ⟨rfl, hss2⟩)
      | (go_at_call 46; (with_reducible refine (sc_same lM (by with_reducible assumption) (by with_reducible assumption) (by exact SanSt.pm (by with_reducible assumption))).mono ?_); rintro e ws3 ⟨rfl, hss3⟩)
      | (go_at_call 46; (with_reducible refine (sc_same lC (by with_reducible assumption) (by with_reducible assumption) (by with_reducible assumption)).mono ?_); rintro e ws4 ⟨rfl, hss4⟩)
      | (go_at_call 46; (with_reducible refine (sc_same lS (by with_reducible assumption) (by first | with_reducible assumption | with_reducible exact IsPairs.alloc hpz _) (by first | with_reducible assumption | with_reducible exact new_lS _ rfl)).mono ?_); rintro e ws5 ⟨rfl, hss5⟩)
      | (refine step_app (by first | rfl | go_simp) _ _ (by rfl) _ _ (lT.take 2) lM (by rfl) (SanSt.two (by with_reducible assumption)) _ (by rfl) (SanSt.pm (by with_reducible assumption)) (by decide) (by decide) ?_; intro vq wq hpc0 hbq; have hpc : IsPairs wq vq lC := hpc0; have hsq := SanSt.below (by with_reducible assumption) hbq; first | (have hcq := pairs_below hbq hpy) | skip)
      | fail "no arm")
  all_goals
    exact HQ.out _ _ _ _ _ _ _ _ _ _ _ _ _ _ _ _ _ _ _ _ _ _ _ _ _ _ _ _ _ _ _ _ _ _ _ _ _ _ _ _ _ _ _ _ _ _ _ _ _ _ _ _ _ _ _ (by with_reducible assumption)

end Go.Proofs.YtaafckefeejjpaaGreat

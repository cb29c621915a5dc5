/-
  Walks: region 9 of the fixed examples.
-/
import Derived.Test.YtbbiobhffelaaaaTWHa
namespace Go.Proofs.Ytbbiobhffelaaaa
open Go.RowKit Go.Sort
set_option linter.unusedVariables false

noncomputable def reg9 : Code := ((Try.f10.body.bind (codeReg 9)).getD .skip)
set_option maxRecDepth 1000000 in
set_option maxHeartbeats 16000000 in
theorem reg9_w (w wa : World) (n8 : Nat) (hS : SanP w n8 wa) (s0 s2 s3 s9 s11 s12 s13 s14 s15 s16 s17 s18 s19 s20 s21 s22 s23 s24 s25 s26 s27 s28 s29 s30 s31 s32 s33 s34 s35 s36 s37 s38 s39 s40 s41 s42 s43 s44 s45 s46 s47 s48 s49 s50 s51 s52 s53 s54 s55 s56 s57 s58 s59 s60 s61 s62 s63 s64 s65 s66 s67 s68 s69 s70 s71 s72 s73 s74 s75 s76 s77 s78 s79 s80 s81 s82 s83 s84 s85 s86 s87 s88 s89 s90 s91 s92 s93 s94 s95 s96 s97 s98 s99 s100 s101 s102 s103 s104 s105 s106 s107 s108 s109 s110 s111 s112 s113 s114 s115 s116 s117 s118 s119 s120 s121 s122 s123 s124 s125 s126 s127 s128 s129 s130 s131 s132 s133 s134 s135 s136 s137 s138 s139 s140 s141 s142 s143 s144 s145 s146 s147 s148 : Value) (Q : Exit → Act → World → Prop)
    (hQ : ∀ (t81 t82 t83 t84 t85 t86 t87 t88 t89 t90 t91 t92 t93 t94 t95 t96 t97 t98 t99 t100 t101 t102 t103 t104 t105 t106 t107 t108 t109 t110 t111 t112 t113 t114 t115 t116 t117 t118 t119 t120 t121 t122 t123 t124 t125 t126 t127 t128 t129 t130 t131 t132 t133 t134 t135 t136 t137 t138 t139 t140 t141 t142 t143 t144 t145 t146 t147 t148 : Value) (wx : World), SanP w n8 wx → Q .normal ⟨#[.bool true, .slice (some ⟨w.heap.size, 0, none⟩) 2 2, s2, s3, .bool true, .bool true, .bool true, .pointer (some ⟨n8, 0, none⟩), .bool true, s9, .bool false, s11, s12, s13, s14, s15, s16, s17, s18, s19, s20, s21, s22, s23, s24, s25, s26, s27, s28, s29, s30, s31, s32, s33, s34, s35, s36, s37, s38, s39, s40, s41, s42, s43, s44, s45, s46, s47, s48, s49, s50, s51, s52, s53, s54, s55, s56, s57, s58, s59, s60, s61, s62, s63, s64, s65, s66, s67, s68, s69, s70, s71, s72, s73, s74, s75, s76, s77, s78, s79, s80, t81, t82, t83, t84, t85, t86, t87, t88, t89, t90, t91, t92, t93, t94, t95, t96, t97, t98, t99, t100, t101, t102, t103, t104, t105, t106, t107, t108, t109, t110, t111, t112, t113, t114, t115, t116, t117, t118, t119, t120, t121, t122, t123, t124, t125, t126, t127, t128, t129, t130, t131, t132, t133, t134, t135, t136, t137, t138, t139, t140, t141, t142, t143, t144, t145, t146, t147, t148], []⟩ wx) :
    reg9.wp Try.prog Q ⟨#[s0, .slice (some ⟨w.heap.size, 0, none⟩) 2 2, s2, s3, .bool true, .bool true, .bool true, .pointer (some ⟨n8, 0, none⟩), .bool true, s9, .bool false, s11, s12, s13, s14, s15, s16, s17, s18, s19, s20, s21, s22, s23, s24, s25, s26, s27, s28, s29, s30, s31, s32, s33, s34, s35, s36, s37, s38, s39, s40, s41, s42, s43, s44, s45, s46, s47, s48, s49, s50, s51, s52, s53, s54, s55, s56, s57, s58, s59, s60, s61, s62, s63, s64, s65, s66, s67, s68, s69, s70, s71, s72, s73, s74, s75, s76, s77, s78, s79, s80, s81, s82, s83, s84, s85, s86, s87, s88, s89, s90, s91, s92, s93, s94, s95, s96, s97, s98, s99, s100, s101, s102, s103, s104, s105, s106, s107, s108, s109, s110, s111, s112, s113, s114, s115, s116, s117, s118, s119, s120, s121, s122, s123, s124, s125, s126, s127, s128, s129, s130, s131, s132, s133, s134, s135, s136, s137, s138, s139, s140, s141, s142, s143, s144, s145, s146, s147, s148], []⟩ wa := by
  conv => arg 2; whnf
  have HP9 : Hid (SanP w n8 wa) := Lib.hid hS
  have HQ := Lib.hid hQ
  clear hS hQ
  dsimp only [List.append]
  have a0 := fun wr (h : SanP w n8 wr) => h.s.cells.1.1
  have a1 := fun wr (h : SanP w n8 wr) => h.s.cells.1.2.1
  have a2 := fun wr (h : SanP w n8 wr) => h.s.cells.1.2.2.1
  have a3 := fun wr (h : SanP w n8 wr) => h.s.cells.1.2.2.2.1
  have a4 := fun wr (h : SanP w n8 wr) => h.s.cells.1.2.2.2.2.1
  have a5 := fun wr (h : SanP w n8 wr) => h.s.cells.1.2.2.2.2.2
  have p0 : ∀ wr, SanP w n8 wr → wr.cell? ⟨n8, 0, none⟩ = some (.string ⟨#[122]⟩) := fun wr h => h.p.c0 0 _ rfl
  have p1 : ∀ wr, SanP w n8 wr → wr.cell? ⟨n8, 1, none⟩ = some (.string ⟨#[51]⟩) := fun wr h => h.p.c0 1 _ rfl
  have p2 : ∀ wr, SanP w n8 wr → wr.cell? ⟨n8, 2, none⟩ = some (.int .i64 0) := fun wr h => h.p.c0 2 _ rfl
  have heq : ∀ w, (binOp .eql 30 (.agg #[.string ⟨#[122]⟩, .string ⟨#[51]⟩, .int .i64 0]) (.agg #[.string ⟨#[122]⟩, .string ⟨#[51]⟩, .int .i64 0])).run Try.prog w = .ok (.bool true) w := fun w => eql_pair [122] [51] 0 [122] [51] 0 w
  go_region_held3 (fun wr => SanP w n8 wr) (first | with_reducible assumption | exact SanP.alloc (by with_reducible assumption) _ | exact HP9.out.drew)
    (first
      | (go_at_call 22; (with_reducible refine (sp_put (by assumption)).mono ?_); rintro e wu ⟨vu, rfl, hpu, hbu, hsu⟩; first | (have hlu := pairs_below hbu (by with_reducible exact (new_lP wa rfl).drew)) | skip)
      | (go_at_call 23; (with_reducible refine (sp_del (by assumption)).mono ?_); rintro e wv ⟨vv, rfl, hpv, hbv, hsv⟩)
      | (go_at_call 17; (with_reducible refine (sp_same lP (by with_reducible assumption) (by first | with_reducible assumption | with_reducible exact IsPairs.alloc hpu _) (by first | with_reducible assumption | with_reducible exact new_lP _ rfl)).mono ?_); rintro e ws ⟨rfl, hss⟩)
      | (go_at_call 17; (with_reducible refine (sp_same [([122], [51], 0)] (by with_reducible assumption) (by with_reducible assumption) (by exact SanSt.tail (SanP.s (by with_reducible assumption)))).mono ?_); rintro e ws2 ⟨rfl, hss2⟩)
      | (go_at_call 30; (with_reducible refine (sp_valid lA true (by with_reducible assumption) (by with_reducible exact SanSt.pa (SanP.s (by with_reducible assumption))) (by decide) (by decide +kernel)).mono ?_); rintro e wq ⟨rfl, hsq⟩)
      | (go_at_call 30; (with_reducible refine (sp_valid [] true (by with_reducible assumption) (by with_reducible exact IsPairs.nil _) (by decide) (by decide +kernel)).mono ?_); rintro e wq ⟨rfl, hsq⟩)
      | (go_at_call 30; (with_reducible refine (sp_valid lN false (by with_reducible assumption) (by with_reducible exact new_lN _ rfl) (by decide) (by decide +kernel)).mono ?_); rintro e wq ⟨rfl, hsq⟩)
      | (go_at_call 30; (with_reducible refine (sp_valid lD false (by with_reducible assumption) (by with_reducible exact new_lD _ rfl) (by decide) (by decide +kernel)).mono ?_); rintro e wq ⟨rfl, hsq⟩))
  all_goals
    exact HQ.out _ _ _ _ _ _ _ _ _ _ _ _ _ _ _ _ _ _ _ _ _ _ _ _ _ _ _ _ _ _ _ _ _ _ _ _ _ _ _ _ _ _ _ _ _ _ _ _ _ _ _ _ _ _ _ _ _ _ _ _ _ _ _ _ _ _ _ _ _ (by with_reducible assumption)

end Go.Proofs.Ytbbiobhffelaaaa

/-
  Walks: the fixed examples that every law of package table tries.
-/
import Derived.Test.YtbbiobhffelaaaaTWHb
import Derived.Test.YtbbiobhffelaaaaTWHc
namespace Go.Proofs.Ytbbiobhffelaaaa
open Go.RowKit Go.Sort
set_option linter.unusedVariables false

set_option maxRecDepth 100000 in
set_option maxHeartbeats 8000000 in
theorem sanity_w (w : World) : Calls Try.prog 10 #[] w fun e w' => e = .returned (.bool true) ∧ Below w.heap.size w w' := by
  obtain ⟨wa, hwa⟩ : ∃ wa, wa = ((w.alloc (.cells #[.string ⟨#[120]⟩, .string ⟨#[49]⟩, .int .i64 0, .string ⟨#[122]⟩, .string ⟨#[51]⟩, .int .i64 0] 30)).alloc (.cells #[.string ⟨#[121]⟩, .string ⟨#[50]⟩, .int .i64 0, .string ⟨#[122]⟩, .string ⟨#[52]⟩, .int .i64 0] 30)).alloc (.cells #[.string ⟨#[97, 47, 98]⟩, .string ⟨#[49]⟩, .int .i64 0, .string ⟨#[97, 47, 99]⟩, .string ⟨#[50]⟩, .int .i64 0, .string ⟨#[98]⟩, .string ⟨#[51]⟩, .int .i64 0] 30) := ⟨_, rfl⟩
  have HS : Hid (SanSt w wa) := Lib.hid (by rw [hwa]; exact SanSt.start w)
  go_enter Try.func10, Try.ntmps10
  go_upto_region 4 with fail
  rw [← hwa]
  clear hwa
  go_cut [4] (fun s4 wx => s4 = .bool true ∧ Hid (SanSt w wx))
  case first =>
    refine reg4_w w wa HS.out _ _ _ _ _ _ _ _ _ _ _ _ _ _ _ _ _ _ _ _ _ _ _ _ _ _ _ _ _ _ _ _ _ _ _ _ _ _ _ _ _ _ _ _ _ _ _ _ _ _ _ _ _ _ _ _ _ _ _ _ _ _ _ _ _ _ _ _ _ _ _ _ _ _ _ _ _ _ _ _ _ _ _ _ _ _ _ _ _ _ _ _ _ _ _ _ _ _ _ _ _ _ _ _ _ _ _ _ _ _ _ _ _ _ _ _ _ _ _ _ _ _ _ _ _ _ _ _ _ _ _ _ _ _ _ _ _ _ _ _ _ _ _ _ _ _ _ _ (fun t21 t22 t23 t24 t25 t26 t27 t28 t29 t30 t31 t32 t33 t34 t35 t36 t37 t38 t39 t40 t41 t42 t43 t44 t45 t46 t47 t48 t49 t50 wx hS => ?_)
    have HS4 := Lib.hid hS
    clear hS
    go_wp2_with fail
    go_meet
    exact ⟨rfl, HS4⟩
  case rest =>
    obtain ⟨rfl, HS2⟩ := hcut
    clear HS
    go_upto_region 5 with fail
    go_cut [5] (fun s5 wx => s5 = .bool true ∧ Hid (SanSt w wx))
    case first =>
        go_region_held3 (fun wr => SanSt w wr) (first | with_reducible assumption | exact SanSt.alloc (by with_reducible assumption) _ | exact HS2.out.drew)
          (first
            | (go_at_call 18; (with_reducible refine (sc_range (by assumption)).mono ?_); rintro e wu ⟨vu, rfl, hpu, hbu, hsu⟩)
            | (go_at_call 20; (with_reducible refine (sc_drop (by assumption)).mono ?_); rintro e wv ⟨vv, rfl, hpv, hbv, hsv⟩)
            | (go_at_call 17; (with_reducible refine (sc_same [([122], [51], 0)] (by with_reducible assumption) (by with_reducible assumption) (by exact SanSt.tail (by with_reducible assumption))).mono ?_); rintro e ws ⟨rfl, hss⟩)
            | (go_at_call 17; (with_reducible refine (sc_same [([120], [49], 0)] (by with_reducible assumption) (by with_reducible assumption) (by exact SanSt.front (by with_reducible assumption))).mono ?_); rintro e wt ⟨rfl, hst⟩))
        all_goals
          go_wp2_with fail
          go_meet
          exact ⟨rfl, Lib.hid (by with_reducible assumption)⟩
    case rest =>
      obtain ⟨rfl, HS3⟩ := hcut
      clear HS2
      go_wp2_with fail
      refine (sc_moved HS3.out).mono ?_
      rintro e w6 ⟨v6, rfl, hp6, hb6, hs6⟩
      have HP6 := Lib.hid hp6
      have HS6 := Lib.hid hs6
      clear hp6 hb6 hs6 HS3
      go_wp2_with fail
      refine (sc_same lM (HS6.out.alloc _) (HP6.out.alloc _) (new_lM _ rfl)).mono ?_
      rintro e w7 ⟨rfl, hs7⟩
      have HS7 := Lib.hid hs7
      clear hs7 HS6 HP6
      go_wp2_with fail
      refine (sc_find1 HS7.out).mono ?_
      rintro e w8 ⟨rfl, hs8⟩
      have HS8 := Lib.hid hs8
      clear hs8 HS7
      go_wp2_with fail
      have hP8 : SanP w w8.heap.size (w8.alloc (.cells #[.string ⟨#[122]⟩, .string ⟨#[51]⟩, .int .i64 0] 30)) := ⟨HS8.out.alloc _, Blk.new _ _ _⟩
      refine (sp_find2 hP8).mono ?_
      rintro e w9 ⟨rfl, hs9⟩
      have HP9 := Lib.hid (hs9.alloc (.cells #[.string ⟨#[]⟩, .string ⟨#[]⟩, .int .i64 0] 30))
      clear hs9 hP8 HS8
      go_wp2_with fail
      generalize w9.alloc (.cells #[.string ⟨#[]⟩, .string ⟨#[]⟩, .int .i64 0] 30) = wz at *
      generalize w8.heap.size = n8 at *
      refine reg9_w w wz n8 HP9.out _ _ _ _ _ _ _ _ _ _ _ _ _ _ _ _ _ _ _ _ _ _ _ _ _ _ _ _ _ _ _ _ _ _ _ _ _ _ _ _ _ _ _ _ _ _ _ _ _ _ _ _ _ _ _ _ _ _ _ _ _ _ _ _ _ _ _ _ _ _ _ _ _ _ _ _ _ _ _ _ _ _ _ _ _ _ _ _ _ _ _ _ _ _ _ _ _ _ _ _ _ _ _ _ _ _ _ _ _ _ _ _ _ _ _ _ _ _ _ _ _ _ _ _ _ _ _ _ _ _ _ _ _ _ _ _ _ _ _ _ _ _ _ (fun t81 t82 t83 t84 t85 t86 t87 t88 t89 t90 t91 t92 t93 t94 t95 t96 t97 t98 t99 t100 t101 t102 t103 t104 t105 t106 t107 t108 t109 t110 t111 t112 t113 t114 t115 t116 t117 t118 t119 t120 t121 t122 t123 t124 t125 t126 t127 t128 t129 t130 t131 t132 t133 t134 t135 t136 t137 t138 t139 t140 t141 t142 t143 t144 t145 t146 t147 t148 wx hS => ?_)
      have Hg := Lib.hid hS.s.g
      clear hS
      go_wp2
      go_ret
      exact ⟨rfl, Hg.out⟩

end Go.Proofs.Ytbbiobhffelaaaa

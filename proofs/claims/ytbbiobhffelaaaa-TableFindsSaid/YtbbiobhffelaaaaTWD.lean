/-
  Walks: the reference's choice of pairs.
-/
import Derived.Test.YtbbiobhffelaaaaTWC
namespace Go.Proofs.Ytbbiobhffelaaaa
open Go.RowKit Go.Sort
set_option linter.unusedVariables false

set_option maxRecDepth 100000 in
set_option maxHeartbeats 4000000 in
set_option warningAsError false in
theorem pair_w (a b c : Nat) (w : World) (ha : a < 256) (hb : b < 256) (hc : c < 256) :
    Calls Try.prog 32 #[.agg #[.int .u8 a, .int .u8 b, .int .u8 c]] w fun e w' => e = .returned (.agg #[.string (Str (keyS a)), .string (Str (valL.getD (b % 4) [])), .int .i64 (c % 4 : Nat)]) ∧ Below w.heap.size w w' := by
  have hv : ∀ W : World, (W.alloc (.cells #[.string ⟨#[]⟩, .string ⟨#[118]⟩, .string ⟨#[119, 120]⟩, .string ⟨#[120, 121, 122]⟩] 9)).cell? ⟨W.heap.size, b % 4, none⟩ = some (.string (Str (valL.getD (b % 4) []))) := fun W => strs_cell valL 9 (b % 4) (Nat.mod_lt _ (by decide)) rfl
  have hk := Lib.hid (fun wx => key_w a wx ha)
  have hzb : (b : Int) % 4 = ((b % 4 : Nat) : Int) := by omega
  have hzc : (c : Int) % 4 = ((c % 4 : Nat) : Int) := by omega
  have hm4 : b % 4 < 4 := Nat.mod_lt _ (by decide)
  have hc4 : c % 4 < 4 := Nat.mod_lt _ (by decide)
  generalize valL.getD (b % 4) [] = rv at *
  generalize b % 4 = m at *
  generalize c % 4 = q at *
  generalize keyS a = rk at *
  obtain ⟨wa, hwa⟩ : ∃ wa, wa = (w.alloc (.cells #[.int .u8 a, .int .u8 b, .int .u8 c] 47)).alloc (.cells #[.string ⟨#[]⟩, .string ⟨#[]⟩, .int .i64 0] 30) := ⟨_, rfl⟩
  have HK : Hid (Blk wa w.heap.size 47 #[.int .u8 a, .int .u8 b, .int .u8 c]) := Lib.hid (by rw [hwa]; exact (Blk.new _ _ _).alloc _)
  have HR : Hid (Blk wa (w.heap.size + 1) 30 #[.string ⟨#[]⟩, .string ⟨#[]⟩, .int .i64 0]) := Lib.hid (by rw [hwa]; exact Blk.new' _ _ _ (by simp))
  have Hb0 : Hid (Below w.heap.size w wa) := Lib.hid (by rw [hwa]; exact (below_box _).alloc (by simp) _)
  have hsz : wa.heap.size = w.heap.size + 1 + 1 := by rw [hwa]; simp
  have hza : (a : Int) < 256 := by omega
  have hzb' : (b : Int) < 256 := by omega
  have hzc' : (c : Int) < 256 := by omega
  have hzm : (m : Int) < 4 := by omega
  have hzm0 : (0 : Int) ≤ (m : Int) := by omega
  have hzq : (q : Int) < 4 := by omega
  have hzq0 : (0 : Int) ≤ (q : Int) := by omega
  have htb : (b : Int).tmod 4 = (m : Int) := by rw [Int.tmod_eq_emod_of_nonneg (by omega)]; exact hzb
  have htc : (c : Int).tmod 4 = (q : Int) := by rw [Int.tmod_eq_emod_of_nonneg (by omega)]; exact hzc
  have hwm : IntKind.u8.wrap (m : Int) = (m : Int) := by simp [IntKind.wrap, IntKind.bits, IntKind.signed]; omega
  have hwq : IntKind.u8.wrap (q : Int) = (q : Int) := by simp [IntKind.wrap, IntKind.bits, IntKind.signed]; omega
  have hwi : IntKind.i64.wrap (q : Int) = (q : Int) := IntWalk.i64_in _ (by omega)
  clear ha hb hc
  go_enter Try.func32, Try.ntmps32
  go_wp2_with fail
  rw [← hwa]
  have c0 := HK.out.c0 0 _ rfl
  have c1 := HK.out.c0 1 _ rfl
  have c2 := HK.out.c0 2 _ rfl
  have r0 := HR.out.c0 0 _ rfl
  have r1 := HR.out.c0 1 _ rfl
  have r2 := HR.out.c0 2 _ rfl
  have f0 := HR.out.free 0
  have f1 := HR.out.free 1
  have f2 := HR.out.free 2
  have hltk := HK.out.lt
  have hltr := HR.out.lt
  have Hsz := Lib.hid hsz
  clear hsz hwa
  go_region_held3 (fun wr => wr.cell? ⟨w.heap.size, 0, none⟩ = some (.int .u8 a) ∧ wr.cell? ⟨w.heap.size, 1, none⟩ = some (.int .u8 b) ∧ wr.cell? ⟨w.heap.size, 2, none⟩ = some (.int .u8 c)) (go_keep)
    (first
      | (go_at_call 15; refine (hk.out _).mono ?_; rintro e w2 ⟨rfl, hb2⟩; have hk2 : Blk w2 w.heap.size 47 #[.int .u8 a, .int .u8 b, .int .u8 c] := Blk.below (show Blk wa.drew _ _ _ from HK.out) hb2 HK.out.lt; have hr2 : Blk w2 (w.heap.size + 1) 30 #[.string ⟨#[]⟩, .string ⟨#[]⟩, .int .i64 0] := Blk.below (show Blk wa.drew _ _ _ from HR.out) hb2 HR.out.lt; have d0 := hk2.c0 0 _ rfl; have d1 := hk2.c0 1 _ rfl; have d2 := hk2.c0 2 _ rfl; have e0 := hr2.c0 0 _ rfl; have e1 := hr2.c0 1 _ rfl; have e2 := hr2.c0 2 _ rfl; have g0 := hr2.free 0; have g1 := hr2.free 1; have g2 := hr2.free 2; have hlt2 := hr2.lt; have Hb2 : Hid (Below w.heap.size w w2) := Lib.hid (Hb0.out.drew.trans (hb2.mono (Hb0.out.drew).size)); have Hr2 := Lib.hid hr2; clear hb2 hk2 hr2)
      | (go_at_call 15; refine (hk.out _).mono ?_; rintro e w2 ⟨rfl, hb2⟩; have hk2 : Blk w2 w.heap.size 47 #[.int .u8 a, .int .u8 b, .int .u8 c] := Blk.below (show Blk (wa.alloc _).drew _ _ _ from HK.out.alloc _) hb2 (HK.out.alloc _).lt; have hr2 : Blk w2 (w.heap.size + 1) 30 #[.string ⟨#[]⟩, .string ⟨#[]⟩, .int .i64 0] := Blk.below (show Blk (wa.alloc _).drew _ _ _ from HR.out.alloc _) hb2 (HR.out.alloc _).lt; have d0 := hk2.c0 0 _ rfl; have d1 := hk2.c0 1 _ rfl; have d2 := hk2.c0 2 _ rfl; have e0 := hr2.c0 0 _ rfl; have e1 := hr2.c0 1 _ rfl; have e2 := hr2.c0 2 _ rfl; have g0 := hr2.free 0; have g1 := hr2.free 1; have g2 := hr2.free 2; have hlt2 := hr2.lt; have k1 : w2.cell? ⟨wa.heap.size, m, none⟩ = some (.string (Str rv)) := (hb2.cell (p := ⟨wa.heap.size, m, none⟩) (by simp)).trans (hv wa); have Hb2 : Hid (Below w.heap.size w w2) := Lib.hid (((Hb0.out.alloc Hb0.out.size _).drew).trans (hb2.mono ((Hb0.out.alloc Hb0.out.size _).drew).size)); have Hr2 := Lib.hid hr2; clear hb2 hk2 hr2))
  all_goals
    go_wp2_with fail
    have hfin : Blk (((w2.setCell ⟨w.heap.size + 1, 0, none⟩ (.string (Str rk))).setCell ⟨w.heap.size + 1, 1, none⟩ (.string (Str rv))).setCell ⟨w.heap.size + 1, 2, none⟩ (.int .i64 q)) (w.heap.size + 1) 30 #[.string (Str rk), .string (Str rv), .int .i64 q] := ((Hr2.out.setCell 0 _).setCell 1 _).setCell 2 _
    have hbel : Below w.heap.size w (((w2.setCell ⟨w.heap.size + 1, 0, none⟩ (.string (Str rk))).setCell ⟨w.heap.size + 1, 1, none⟩ (.string (Str rv))).setCell ⟨w.heap.size + 1, 2, none⟩ (.int .i64 q)) := ((Hb2.out.setCell (Nat.le_succ _) _).setCell (Nat.le_succ _) _).setCell (Nat.le_succ _) _
    clear d0 d1 d2 e0 e1 e2 g0 g1 g2 c0 c1 c2 r0 r1 r2 f0 f1 f2
    generalize ((w2.setCell ⟨w.heap.size + 1, 0, none⟩ (.string (Str rk))).setCell ⟨w.heap.size + 1, 1, none⟩ (.string (Str rv))).setCell ⟨w.heap.size + 1, 2, none⟩ (.int .i64 q) = wf at *
    first
      | (have h2 := hfin.alloc (.cells #[.string ⟨#[]⟩, .string ⟨#[118]⟩, .string ⟨#[119, 120]⟩, .string ⟨#[120, 121, 122]⟩] 9)
         have x0 := h2.c0 0 _ rfl
         have x1 := h2.c0 1 _ rfl
         have x2 := h2.c0 2 _ rfl
         refine bodyPost_ret (v := .agg #[.string (Str rk), .string (Str rv), .int .i64 q]) (by simp [results, Try.results32, go_sem, x0, x1, x2]) rfl ⟨rfl, ?_⟩
         exact hbel.alloc hbel.size _)
      | (have x0 := hfin.c0 0 _ rfl
         have x1 := hfin.c0 1 _ rfl
         have x2 := hfin.c0 2 _ rfl
         refine bodyPost_ret (v := .agg #[.string (Str rk), .string (Str rv), .int .i64 q]) (by simp [results, Try.results32, go_sem, x0, x1, x2]) rfl ⟨rfl, ?_⟩
         exact hbel)

end Go.Proofs.Ytbbiobhffelaaaa

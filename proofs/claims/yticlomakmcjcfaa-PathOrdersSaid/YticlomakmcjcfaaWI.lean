/-
  Walks: the reference's guess and Place.
-/
import Derived.Test.YticlomakmcjcfaaWH
import Derived.Deep.RegionWith
import Derived.Deep.DeepCutAuto
namespace Go.Proofs.Yticlomakmcjcfaa
open Go.RowKit Go.Sort
set_option linter.unusedVariables false
set_option maxRecDepth 100000

/-- The result's box, and the box of the place that is being made. -/
structure GsAt (w : World) (p : Bs) (t n : Int) (m : Bs) (wx : World) : Prop where
  res : Blk wx w.heap.size 32 #[.string (Str []), .int .i64 0, .int .i64 0, .string (Str [])]
  out : Blk wx (w.heap.size + 1) 32 #[.string (Str p), .int .i64 t, .int .i64 n, .string (Str m)]
  bel : Below w.heap.size w wx
theorem GsAt.new (w : World) : GsAt w [] 0 0 [] ((w.alloc (.cells #[.string (Str []), .int .i64 0, .int .i64 0, .string (Str [])] 32)).alloc (.cells #[.string (Str []), .int .i64 0, .int .i64 0, .string (Str [])] 32)) :=
  ⟨(Blk.new _ _ _).alloc _, Blk.new' _ _ _ (by simp), ((Below.refl _ _).alloc (Nat.le_refl _) _).alloc (by simp) _⟩
theorem GsAt.drew {w wx : World} {p : Bs} {t n : Int} {m : Bs} (h : GsAt w p t n m wx) : GsAt w p t n m wx.drew := ⟨h.res, h.out, h.bel.drew⟩
theorem GsAt.set0 {w wx : World} {p : Bs} {t n : Int} {m : Bs} (h : GsAt w p t n m wx) (q : Bs) : GsAt w q t n m (wx.setCell ⟨w.heap.size + 1, 0, none⟩ (.string (Str q))) := ⟨h.res.setCell_other (by omega) _ _, h.out.setCell 0 _, h.bel.setCell (by show _ ≤ w.heap.size + 1; omega) _⟩
theorem GsAt.set1 {w wx : World} {p : Bs} {t n : Int} {m : Bs} (h : GsAt w p t n m wx) (q : Int) : GsAt w p q n m (wx.setCell ⟨w.heap.size + 1, 1, none⟩ (.int .i64 q)) := ⟨h.res.setCell_other (by omega) _ _, h.out.setCell 1 _, h.bel.setCell (by show _ ≤ w.heap.size + 1; omega) _⟩
theorem GsAt.set2 {w wx : World} {p : Bs} {t n : Int} {m : Bs} (h : GsAt w p t n m wx) (q : Int) : GsAt w p t q m (wx.setCell ⟨w.heap.size + 1, 2, none⟩ (.int .i64 q)) := ⟨h.res.setCell_other (by omega) _ _, h.out.setCell 2 _, h.bel.setCell (by show _ ≤ w.heap.size + 1; omega) _⟩
theorem GsAt.set3 {w wx : World} {p : Bs} {t n : Int} {m : Bs} (h : GsAt w p t n m wx) (q : Bs) : GsAt w p t n q (wx.setCell ⟨w.heap.size + 1, 3, none⟩ (.string (Str q))) := ⟨h.res.setCell_other (by omega) _ _, h.out.setCell 3 _, h.bel.setCell (by show _ ≤ w.heap.size + 1; omega) _⟩
theorem GsAt.facts {w wx : World} {p : Bs} {t n : Int} {m : Bs} (h : GsAt w p t n m wx) : (wx.cell? ⟨w.heap.size + 1, 0, none⟩ = some (.string (Str p)) ∧ wx.cell? ⟨w.heap.size + 1, 1, none⟩ = some (.int .i64 t) ∧ wx.cell? ⟨w.heap.size + 1, 2, none⟩ = some (.int .i64 n) ∧ wx.cell? ⟨w.heap.size + 1, 3, none⟩ = some (.string (Str m))) ∧
    (wx.frozen? ⟨w.heap.size + 1, 0, none⟩ = false ∧ wx.frozen? ⟨w.heap.size + 1, 1, none⟩ = false ∧ wx.frozen? ⟨w.heap.size + 1, 2, none⟩ = false ∧ wx.frozen? ⟨w.heap.size + 1, 3, none⟩ = false) ∧
    (wx.cell? ⟨w.heap.size, 0, none⟩ = some (.string (Str [])) ∧ wx.cell? ⟨w.heap.size, 1, none⟩ = some (.int .i64 0) ∧ wx.cell? ⟨w.heap.size, 2, none⟩ = some (.int .i64 0) ∧ wx.cell? ⟨w.heap.size, 3, none⟩ = some (.string (Str []))) ∧
    (wx.frozen? ⟨w.heap.size, 0, none⟩ = false ∧ wx.frozen? ⟨w.heap.size, 1, none⟩ = false ∧ wx.frozen? ⟨w.heap.size, 2, none⟩ = false ∧ wx.frozen? ⟨w.heap.size, 3, none⟩ = false) :=
  ⟨⟨h.out.cell 0, h.out.cell 1, h.out.cell 2, h.out.cell 3⟩, ⟨h.out.free 0, h.out.free 1, h.out.free 2, h.out.free 3⟩, ⟨h.res.cell 0, h.res.cell 1, h.res.cell 2, h.res.cell 3⟩, h.res.free 0, h.res.free 1, h.res.free 2, h.res.free 3⟩

theorem beqI {a b : Int} (h : ¬ a = b) : (a == b) = false := by simpa using h
set_option maxHeartbeats 8000000 in
theorem guess_w (k : Bs) (i : Nat) (w : World) (hk : k.length ≤ 90000) (hi : i < k.length) (h13 : 1 ≤ (k.getD i 0).toNat ∧ (k.getD i 0).toNat ≤ 3) :
    Calls Try.prog 98 #[.string (Str k), .int .i64 i] w fun e w' => e = .returned (placeV (guessS k i).path (guessS k i).tag (guessS k i).n (guessS k i).name) ∧ Below w.heap.size w w' := by
  have HN := Lib.hid (GsAt.new w)
  have hiz : (i : Int) < (k.length : Int) := by omega
  have hg : k.getD i 0 = k[i] := by rw [List.getD_eq_getElem?_getD, List.getElem?_eq_getElem hi]; rfl
  rw [hg] at h13
  have Hg := Lib.hid hg
  clear hg
  have hp : 0 < k.length := by omega
  have hg0 : Hid (k.getD 0 0 = k[0]) := Lib.hid (by rw [List.getD_eq_getElem?_getD, List.getElem?_eq_getElem hp]; rfl)
  have hdl : (k.drop (i + 1)).length = k.length - (i + 1) := List.length_drop
  obtain ⟨ct, hct⟩ : ∃ ct : Int, ct = (k[i]).toNat := ⟨_, rfl⟩
  have hc3 : (ct = 1 ∧ (k[i]).toNat = 1) ∨ (ct = 2 ∧ (k[i]).toNat = 2) ∨ (ct = 3 ∧ (k[i]).toNat = 3) := by omega
  have Hct := Lib.hid hct
  have hwr : wrap64 ((k[i]).toNat : Int) = (k[i]).toNat := by unfold wrap64; omega
  clear hct h13
  go_enter Try.func98, Try.ntmps98
  go_upto_region 1 with fail
  go_cut [5] (fun s5 wx => s5 = .pointer (some ⟨w.heap.size + 1, 0, none⟩) ∧ GsAt w (k.take i) ct 0 [] wx)
  case first =>
    clear hc3
    go_region
    all_goals (go_wp2_with fail; go_meet)
    all_goals
      rw [Hct.out]
      (try rw [hwr])
      exact ⟨rfl, (Blk.new _ _ _).alloc _, Blk.new' _ _ _ (by simp), (((Below.refl w.heap.size w).alloc (Nat.le_refl _) _).alloc (by simp) _).drew⟩
  case rest =>
    obtain ⟨rfl, hgs⟩ := hcut
    rcases hc3 with ⟨rfl, hc⟩ | ⟨rfl, hc⟩ | ⟨rfl, hc⟩
    · by_cases h6 : 0 < i ∧ k[0] = 6
      · have H : Hid (guessS k i = ⟨[], (k.take i).drop 1, 4, 0, []⟩) := Lib.hid (by
          simp only [guessS]; rw [Hg.out, hg0.out, if_pos ⟨hc, h6.1, h6.2⟩, if_pos ⟨hc, h6.1, h6.2⟩, if_neg (by omega), if_neg (by omega)])
        have hi0 : (0 : Int) < (i : Int) := by omega
        have h06 : ((k[0].toNat : Int) == 6) = true := by rw [h6.2]; rfl
        have hx : (Str k).extract 1 i = Str ((k.take i).drop 1) := by rw [extract_Str, toList_Str, List.drop_take]
        have hi1 : (1 : Int) ≤ (i : Int) := by omega
        obtain ⟨⟨c0, c1, c2, c3⟩, ⟨f0, f1, f2, f3⟩, ⟨r0, r1, r2, r3⟩, r4, r5, r6, r7⟩ := hgs.facts
        have HG := Lib.hid hgs
        clear hc h6 hgs
        go_wp2
        refine bodyPost_ret (v := placeV ((k.take i).drop 1) 4 0 []) (by simp [results, Try.results98, go_sem, placeV, r0, r1, r2, r3]; try rfl) rfl ⟨by rw [H.out], ?_⟩
        exact (((((HG.out.bel.setCell (by show _ ≤ w.heap.size + 1; omega) _).setCell (by show _ ≤ w.heap.size + 1; omega) _).setCell (Nat.le_refl _) _).setCell (Nat.le_refl _) _).setCell (Nat.le_refl _) _).setCell (Nat.le_refl _) _
      · have H : Hid (guessS k i = ⟨[], k.take i, 1, 0, []⟩) := Lib.hid (by
          simp only [guessS]; rw [Hg.out, hg0.out, if_neg (fun h => h6 h.2), if_neg (fun h => h6 h.2), if_neg (by omega), if_neg (by omega), hc]; rfl)
        have h06 : ¬ (0 : Int) < (i : Int) ∨ ((0 : Int) < (i : Int) ∧ ((k[0].toNat : Int) == 6) = false) := by
          by_cases h0 : 0 < i
          · right
            refine ⟨by omega, ?_⟩
            rw [beq_eq_false_iff_ne]
            intro h
            exact h6 ⟨h0, (u8_eq (n := 6) (by omega)).1 h⟩
          · left; omega
        obtain ⟨⟨c0, c1, c2, c3⟩, ⟨f0, f1, f2, f3⟩, ⟨r0, r1, r2, r3⟩, r4, r5, r6, r7⟩ := hgs.facts
        have HG := Lib.hid hgs
        clear hc h6 hgs
        rcases h06 with h06 | ⟨h06, h07⟩
        all_goals
          go_wp2
          refine bodyPost_ret (v := placeV (k.take i) 1 0 []) (by simp [results, Try.results98, go_sem, placeV, r0, r1, r2, r3]; try rfl) rfl ⟨by rw [H.out], ?_⟩
          exact (((HG.out.bel.setCell (Nat.le_refl _) _).setCell (Nat.le_refl _) _).setCell (Nat.le_refl _) _).setCell (Nat.le_refl _) _
    · by_cases h2 : (k.drop (i + 1)).length = 2
      · obtain ⟨y, z, hyz⟩ : ∃ y z, k.drop (i + 1) = [y, z] := by
          match k.drop (i + 1), h2 with
          | [y, z], _ => exact ⟨y, z, rfl⟩
        have H : Hid (guessS k i = ⟨[], k.take i, 2, 256 * (y.toNat : Int) + z.toNat, []⟩) := Lib.hid (by
          simp only [guessS]; rw [Hg.out, if_neg (by omega), if_neg (by omega), if_pos ⟨hc, h2⟩, if_neg (by omega), hc, hyz]; rfl)
        have hy := y.toNat_lt
        have hz := z.toNat_lt
        have hx : (Str k).extract (i + 1) (i + 1 + 2) = Str [y, z] := by rw [show i + 1 + 2 = k.length by omega, extract_StrN, hyz]
        obtain ⟨⟨c0, c1, c2, c3⟩, ⟨f0, f1, f2, f3⟩, ⟨r0, r1, r2, r3⟩, r4, r5, r6, r7⟩ := hgs.facts
        have HG := Lib.hid hgs
        have hkl : k.length = i + 1 + 2 := by omega
        clear hc hgs h2 hdl
        go_wp2
        go_region
        all_goals
          go_wp2
          refine bodyPost_ret (v := placeV (k.take i) 2 (256 * (y.toNat : Int) + z.toNat) []) (by simp [results, Try.results98, go_sem, placeV, r0, r1, r2, r3]; try rfl) rfl ⟨by rw [H.out], ?_⟩
          exact (((((HG.out.bel.setCell (by show _ ≤ w.heap.size + 1; omega) _).setCell (Nat.le_refl _) _).setCell (Nat.le_refl _) _).setCell (Nat.le_refl _) _).setCell (Nat.le_refl _) _).drew
      · have H : Hid (guessS k i = ⟨[], k.take i, 2, 0, []⟩) := Lib.hid (by
          simp only [guessS]; rw [Hg.out, if_neg (by omega), if_neg (by omega), if_neg (fun h => h2 h.2), if_neg (by omega), hc]; rfl)
        have h2' : ((k.length - (i + 1) : Nat) : Int) ≠ 2 := by omega
        have h2b := beqI h2'
        obtain ⟨⟨c0, c1, c2, c3⟩, ⟨f0, f1, f2, f3⟩, ⟨r0, r1, r2, r3⟩, r4, r5, r6, r7⟩ := hgs.facts
        have HG := Lib.hid hgs
        clear hc hgs h2 h2'
        go_wp2
        refine bodyPost_ret (v := placeV (k.take i) 2 0 []) (by simp [results, Try.results98, go_sem, placeV, r0, r1, r2, r3]; try rfl) rfl ⟨by rw [H.out], ?_⟩
        exact (((HG.out.bel.setCell (Nat.le_refl _) _).setCell (Nat.le_refl _) _).setCell (Nat.le_refl _) _).setCell (Nat.le_refl _) _
    · have H : Hid (guessS k i = ⟨[], k.take i, 3, 0, k.drop (i + 1)⟩) := Lib.hid (by
        simp only [guessS]; rw [Hg.out, if_neg (by omega), if_neg (by omega), if_neg (by omega), if_pos hc, hc]; rfl)
      obtain ⟨⟨c0, c1, c2, c3⟩, ⟨f0, f1, f2, f3⟩, ⟨r0, r1, r2, r3⟩, r4, r5, r6, r7⟩ := hgs.facts
      have HG := Lib.hid hgs
      clear hc hgs
      go_wp2
      refine bodyPost_ret (v := placeV (k.take i) 3 0 (k.drop (i + 1))) (by simp [results, Try.results98, go_sem, placeV, r0, r1, r2, r3]; try rfl) rfl ⟨by rw [H.out], ?_⟩
      exact ((((HG.out.bel.setCell (by show _ ≤ w.heap.size + 1; omega) _).setCell (Nat.le_refl _) _).setCell (Nat.le_refl _) _).setCell (Nat.le_refl _) _).setCell (Nat.le_refl _) _


theorem guess_len (k : Bs) (i : Nat) : (guessS k i).path.length ≤ k.length ∧ (guessS k i).name.length ≤ k.length := by
  simp only [guessS]
  constructor
  · split <;> simp <;> omega
  · split <;> simp
/-- The result's box while Place goes on. -/
def RsAt (w wx : World) : Prop := Blk wx w.heap.size 32 #[.string (Str []), .int .i64 0, .int .i64 0, .string (Str [])] ∧ Below w.heap.size w wx
theorem RsAt.below {w wx wy : World} (h : RsAt w wx) (hb : Below wx.heap.size wx wy) : RsAt w wy := ⟨h.1.below hb h.1.lt, Below.next h.2 (Nat.le_refl _) hb⟩

set_option maxHeartbeats 8000000 in
theorem rplace_w (k : Bs) (w : World) (hk : k.length ≤ 90000) :
    Calls Try.prog 21 #[.string (Str k)] w fun e w' => e = .returned (placeR k) ∧ Below w.heap.size w w' := by
  have HR0 : Hid (RsAt w (w.alloc (.cells #[.string (Str []), .int .i64 0, .int .i64 0, .string (Str [])] 32))) := Lib.hid ⟨Blk.new _ _ _, (Below.refl _ _).alloc (Nat.le_refl _) _⟩
  go_enter Try.func21, Try.ntmps21
  go_wp2
  go_loopw [4] (fun i wr => ∃ n : Nat, n ≤ k.length ∧ i = .int .i64 n ∧ Hid (∀ j, j < n → hitB k j = false) ∧ RsAt w wr) (fun i _ => k.length - (intOf i).toNat)
  case atStart => exact ⟨0, Nat.zero_le _, rfl, Lib.hid (fun j hj => absurd hj (by omega)), HR0.out⟩
  case round =>
    obtain ⟨n, hn, rfl, Hno, hrs⟩ := hrel
    by_cases hlt : n < k.length
    · have hg : k.getD n 0 = k[n] := by rw [List.getD_eq_getElem?_getD, List.getElem?_eq_getElem hlt]; rfl
      have hc := (k[n]).toNat_lt
      by_cases h1 : (k[n]).toNat < 1 ∨ 3 < (k[n]).toNat
      · have HH : Hid (hitB k n = false) := Lib.hid (by
          unfold hitB
          rw [hg]
          rcases h1 with h1 | h1
          · have : decide (1 ≤ (k[n]).toNat) = false := by simp; omega
            rw [this]; rfl
          · have : decide ((k[n]).toNat ≤ 3) = false := by simp; omega
            rw [this]; simp)
        have h1' : ((k[n]).toNat : Int) < 1 ∨ (¬ ((k[n]).toNat : Int) < 1 ∧ 3 < ((k[n]).toNat : Int)) := by omega
        have HRS := Lib.hid hrs
        clear hg hrs h1
        rcases h1' with h1 | ⟨h1, h2⟩
        all_goals
          go_wp2
          go_roundw
          case rel => exact ⟨n + 1, by omega, by go_num, Lib.hid (fun j hj => by
            by_cases e : j = n
            · subst e; exact HH.out
            · exact Hno.out j (by omega)), HRS.out⟩
          case measure => simp [intOf]; omega
      · have h13 : 1 ≤ (k.getD n 0).toNat ∧ (k.getD n 0).toNat ≤ 3 := by rw [hg]; omega
        have hz1 : ¬ ((k[n]).toNat : Int) < 1 := by omega
        have hz2 : ¬ 3 < ((k[n]).toNat : Int) := by omega
        have Hg := Lib.hid (fun wx => guess_w k n wx hk hlt h13)
        have hl := guess_len k n
        have Hk := Lib.hid (fun wx => rkey_w (guessS k n).tag (guessS k n).n (guessS k n).path (guessS k n).name wx (by omega) (by omega))
        have HH : Hid (hitB k n = (decide ((keyG (guessS k n)).2 = 0) && ((keyG (guessS k n)).1 == k))) := Lib.hid (by
          unfold hitB; rw [decide_eq_true h13.1, decide_eq_true h13.2]; rfl)
        have HP : Hid (hitB k n = true → placeR k = .tuple #[placeV (guessS k n).path (guessS k n).tag (guessS k n).n (guessS k n).name, .int .i64 0]) := Lib.hid (fun h => by
          unfold placeR; rw [hit_place h])
        unfold keyG at HH
        generalize guessS k n = g at *
        obtain ⟨gr, gp, gt, gn, gm⟩ := g
        simp only [placeV] at Hg Hk HH HP
        generalize keyF gp gt gn gm = q at *
        obtain ⟨q1, q2⟩ := q
        simp only at Hk HH
        have HRS := Lib.hid hrs
        clear hg hrs h1 h13 hl
        have hq : (q2 = 0 ∧ q1 = k) ∨ ((q2 == 0) = false ∧ hitB k n = false) ∨ ((q2 == 0) = true ∧ (q1 == k) = false ∧ hitB k n = false) := by
          rw [HH.out]
          by_cases e2 : q2 = 0
          · by_cases e1 : q1 = k
            · exact .inl ⟨e2, e1⟩
            · exact .inr (.inr ⟨by simp [e2], by simp [e1], by simp [e1]⟩)
          · exact .inr (.inl ⟨by simp [e2], by simp [e2]⟩)
        rcases hq with ⟨rfl, rfl⟩ | ⟨e2, hh⟩ | ⟨e2, e1, hh⟩
        · have HP2 := Lib.hid (HP.out (by rw [HH.out]; simp))
          clear HP HH
          go_wp2_with (first
            | (go_at_call 98; refine (Hg.out _).mono ?_; rintro e w1 ⟨rfl, hb⟩; have R1 := HRS.out.below hb; replace HRS := Lib.hid R1; have HX := Lib.hid (XAt.new gp gt gn gm w1); clear hb R1)
            | (go_at_call 32; refine (Hk.out _).mono ?_; rintro e w2 ⟨rfl, hb⟩; have R2 : RsAt w w2 := (HRS.out.below HX.out.2).below hb; have X2 := HX.out.below hb; obtain ⟨c0, c1, c2, c3⟩ := X2.facts; have HR2 := Lib.hid R2; have r0 := R2.1.cell 0; have r1 := R2.1.cell 1; have r2 := R2.1.cell 2; have r3 := R2.1.cell 3; have f0 := R2.1.free 0; have f1 := R2.1.free 1; have f2 := R2.1.free 2; have f3 := R2.1.free 3; simp at r0 r1 r2 r3; clear hb R2 X2))
          refine bodyPost_ret (v := .tuple #[placeV gp gt gn gm, .int .i64 0]) (by simp [results, Try.results21, go_sem, placeV, r0, r1, r2, r3]; try rfl) rfl ⟨by rw [HP2.out]; try rfl, ?_⟩
          exact (((HR2.out.2.setCell (Nat.le_refl _) _).setCell (Nat.le_refl _) _).setCell (Nat.le_refl _) _).setCell (Nat.le_refl _) _
        all_goals
          have Hh := Lib.hid hh
          clear hh HP HH
          go_wp2_with (first
            | (go_at_call 98; refine (Hg.out _).mono ?_; rintro e w1 ⟨rfl, hb⟩; have R1 := HRS.out.below hb; replace HRS := Lib.hid R1; have HX := Lib.hid (XAt.new gp gt gn gm w1); clear hb R1)
            | (go_at_call 32; refine (Hk.out _).mono ?_; rintro e w2 ⟨rfl, hb⟩; have HR2 : Hid (RsAt w w2) := Lib.hid ((HRS.out.below HX.out.2).below hb); clear hb))
          go_roundw
          case rel => exact ⟨n + 1, by omega, by go_num, Lib.hid (fun j hj => by
            by_cases e : j = n
            · subst e; exact Hh.out
            · exact Hno.out j (by omega)), HR2.out⟩
          case measure => simp [intOf]; omega
    · have HP : Hid (placeR k = .tuple #[placeV [] 0 0 [], .int .i64 12]) := Lib.hid (by
        unfold placeR
        rw [no_place (fun i hi => Hno.out i (by omega))])
      have r0 := hrs.1.cell 0
      have r1 := hrs.1.cell 1
      have r2 := hrs.1.cell 2
      have r3 := hrs.1.cell 3
      have f0 := hrs.1.free 0
      have f1 := hrs.1.free 1
      have f2 := hrs.1.free 2
      have f3 := hrs.1.free 3
      simp at r0 r1 r2 r3
      have HRS := Lib.hid hrs
      clear hrs
      go_wp2
      refine bodyPost_ret (v := .tuple #[placeV [] 0 0 [], .int .i64 12]) (by simp [results, Try.results21, go_sem, placeV, r0, r1, r2, r3]; try rfl) rfl ⟨by rw [HP.out], ?_⟩
      exact (((HRS.out.2.setCell (Nat.le_refl _) _).setCell (Nat.le_refl _) _).setCell (Nat.le_refl _) _).setCell (Nat.le_refl _) _

end Go.Proofs.Yticlomakmcjcfaa

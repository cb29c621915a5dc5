/-
  The walk of the law PathOrders.
-/
import Derived.Test.YticlomakmcjcfaaWV
import Derived.Test.YticlomakmcjcfaaWZ
import Derived.Test.YticlomakmcjcfaaWYR
namespace Go.Proofs.Yticlomakmcjcfaa
open Go.RowKit Go.Sort
set_option linter.unusedVariables false
set_option maxRecDepth 100000

/-- The boxes of the arguments. -/
structure P3 (w : World) (ya wa : Array Value) (wx : World) : Prop where
  y : Blk wx w.heap.size 44 ya
  a : Blk wx (w.heap.size + 1) 53 wa
  bel : Below w.heap.size w wx
theorem P3.below {w wx wy : World} {ya wa : Array Value} (h : P3 w ya wa wx) (hb : Below wx.heap.size wx wy) : P3 w ya wa wy :=
  ⟨h.y.below hb h.y.lt, h.a.below hb h.a.lt, Below.next h.bel (Nat.le_refl _) hb⟩
theorem P3.alloc {w wx : World} {ya wa : Array Value} (h : P3 w ya wa wx) (o : Obj) : P3 w ya wa (wx.alloc o) := ⟨h.y.alloc o, h.a.alloc o, h.bel.alloc h.bel.size _⟩

theorem blk_made {W w2 : World} {T : TypeId} {cs : Array Value} (hb : Below (W.alloc (.cells cs T)).drew.heap.size (W.alloc (.cells cs T)).drew w2) : Blk w2 W.heap.size T cs :=
  Blk.below (show Blk (W.alloc (.cells cs T)).drew _ _ _ from Blk.new W T cs) hb (by simp)
theorem blk_madeP {W w2 : World} {T : TypeId} {cs : Array Value} (hb : Below (W.alloc (.cells cs T)).heap.size (W.alloc (.cells cs T)) w2) : Blk w2 W.heap.size T cs := Blk.below (Blk.new W T cs) hb (by simp)
theorem keepSet {W wx : World} (h : Below W.heap.size W wx) (i : Nat) (v : Value) : Below W.heap.size W (wx.setCell ⟨W.heap.size, i, none⟩ v) := h.setCell (Nat.le_refl _) _
theorem blkSet4 {W : World} {o : Nat} {T : TypeId} {a b c d x y z u : Value} (h : Blk W o T #[x, y, z, u]) :
    Blk ((((W.setCell ⟨o, 0, none⟩ a).setCell ⟨o, 1, none⟩ b).setCell ⟨o, 2, none⟩ c).setCell ⟨o, 3, none⟩ d) o T #[a, b, c, d] := by
  have := (((h.setCell 0 a).setCell 1 b).setCell 2 c).setCell 3 d
  simpa using this

set_option maxHeartbeats 8000000 in
theorem pathOrders_walk (w : World) (v0 : Value) (l : Bs) (h0 : IsBytes w v0 l) (v1 : Value) (y : RawD) (h1 : IsRaw w v1 y) (v2 : Value) (z : Nat × Nat × Nat × Nat) (h2 : IsU16x4 w v2 z) :
    Calls Try.prog 6 #[v0, v1, v2] w fun e w' => e = .returned (.bool true) ∧ Below w.heap.size w w' := by
  obtain ⟨rfl, hy, hyt, hyn⟩ := h1
  obtain ⟨yv, yl, yt, yn⟩ := y
  obtain ⟨z0, z1, z2, z3⟩ := z
  obtain ⟨rfl, hz0, hz1, hz2, hz3⟩ := h2
  simp only at hy hyt hyn hz0 hz1 hz2 hz3
  obtain ⟨A1, C1, rfl, hc1, hc2⟩ := h0.form
  obtain ⟨A, C, rfl, hc3, hc4⟩ := hy.form
  have hk3 : (min (l.length : Int) 3).toNat ≤ l.length := by omega
  have hk1 : (min (yl.length : Int) 1).toNat ≤ yl.length := by omega
  have hm := fun wx (h : Below w.heap.size w wx) => made_w (.slice A1 (min (l.length : Int) 3).toNat C1) (l.take (min (l.length : Int) 3).toNat) wx ((h0.cut _ hk3).below h)
  obtain ⟨t3, ht3⟩ : ∃ t3, t3 = yt % 3 := ⟨_, rfl⟩
  have ht3a : t3 < 256 := by omega
  have hm3 : (yt : Int) % 3 = (t3 : Int) := by omega
  have hm4 : (yt : Int).tmod 3 = (t3 : Int) := by rw [Int.tmod_eq_emod_of_nonneg (by omega)]; omega
  have hy1 := fun wx (h : Below w.heap.size w wx) => madePlace_w (.slice A (min (yl.length : Int) 1).toNat C) (yl.take (min (yl.length : Int) 1).toNat) t3 yn wx ((hy.cut _ hk1).below h) ht3a hyn
  have hy2 := fun wx (h : Below w.heap.size w wx) => madePlace_w (.slice A yl.length C) yl t3 yn wx (hy.below h) ht3a hyn
  simp only [placeV] at hy1 hy2
  have hpv := validB_made (l.take (min (l.length : Int) 3).toNat)
  have hpl := madeS_le (l.take (min (l.length : Int) 3).toNat)
  generalize madeS (l.take (min (l.length : Int) 3).toNat) = p at *
  have hn1 : rawPath (yl.take (min (yl.length : Int) 1).toNat) t3 yn = madeS (yl.take (min (yl.length : Int) 1).toNat) := by unfold rawPath; rw [if_neg (by omega)]
  have hnv : validB (rawPath (yl.take (min (yl.length : Int) 1).toNat) t3 yn) = true := by rw [hn1]; exact validB_made _
  have hnl := rawPath_le (yl.take (min (yl.length : Int) 1).toNat) t3 yn
  have hml := rawM_le t3 yn
  have htY : (1 + ((t3 % 4 : Nat) : Int)) = 1 ∨ (1 + ((t3 % 4 : Nat) : Int)) = 2 ∨ (1 + ((t3 % 4 : Nat) : Int)) = 3 := by omega
  have hfY := raw_fits t3 yn
  have hoQ := raw_owns yl t3 yn hyn
  have hql := rawPath_le yl t3 yn
  clear hn1
  generalize rawPath (yl.take (min (yl.length : Int) 1).toNat) t3 yn = nm at *
  generalize rawPath yl t3 yn = pq at *
  generalize rawM t3 yn = mY at *
  generalize rawN t3 yn = nY at *
  generalize 1 + ((t3 % 4 : Nat) : Int) = tY at *
  have hoY : ownsS tY (p ++ nm) = true := by
    unfold ownsS
    rw [if_pos htY, valid_app hpv hnv]; rfl
  obtain ⟨m, hmz⟩ : ∃ m, m = z0 % 60001 := ⟨_, rfl⟩
  obtain ⟨n, hnz⟩ : ∃ n, n = z1 % 60001 := ⟨_, rfl⟩
  have hm6 : m ≤ 60000 := by omega
  have hn6 : n ≤ 60000 := by omega
  have hm7 : (z0 : Int) % 60001 = (m : Int) := by omega
  have hn7 : (z1 : Int) % 60001 = (n : Int) := by omega
  obtain ⟨b2, hb2⟩ : ∃ b, b = z2 % 256 := ⟨_, rfl⟩
  obtain ⟨b3, hb3⟩ : ∃ b, b = z3 % 256 := ⟨_, rfl⟩
  have hb2w : IntKind.u8.wrap (z2 : Int) = (b2 : Int) := by rw [IntKind.wrap_u8]; omega
  have hb3w : IntKind.u8.wrap (z3 : Int) = (b3 : Int) := by rw [IntKind.wrap_u8]; omega
  have hb2r : (z2 : Int) % 256 = (b2 : Int) := by omega
  have hb3r : (z3 : Int) % 256 = (b3 : Int) := by omega
  have Hc2 := Lib.hid (fun wx => call_w (b2 : Int) wx (by omega))
  have Hc3 := Lib.hid (fun wx => call_w (b3 : Int) wx (by omega))
  have hc2l := callS_le ((b2 : Int)).toNat
  have hc3l := callS_le ((b3 : Int)).toNat
  have hc2n := nameB_callS ((b2 : Int)).toNat
  have hc3n := nameB_callS ((b3 : Int)).toNat
  generalize callS ((b2 : Int)).toNat = c2 at *
  generalize callS ((b3 : Int)).toNat = c3 at *
  have hka : keyF p 1 0 [] = (keyK 1 p 0 [], 0) := by unfold keyF; rw [if_pos ⟨by simp [ownsS, hpv], by decide⟩]
  have hkb : keyF p 2 m [] = (keyK 2 p m [], 0) := by unfold keyF; rw [if_pos ⟨by simp [ownsS, hpv], by simp [fitsS]; omega⟩]
  have hkc : keyF p 2 n [] = (keyK 2 p n [], 0) := by unfold keyF; rw [if_pos ⟨by simp [ownsS, hpv], by simp [fitsS]; omega⟩]
  have hkd : keyF p 3 0 c2 = (keyK 3 p 0 c2, 0) := by unfold keyF; rw [if_pos ⟨by simp [ownsS, hpv], by simp [fitsS, hc2n]⟩]
  have hki : keyF p 3 0 c3 = (keyK 3 p 0 c3, 0) := by unfold keyF; rw [if_pos ⟨by simp [ownsS, hpv], by simp [fitsS, hc3n]⟩]
  have hkk : keyF (p ++ nm) tY nY mY = (keyK tY (p ++ nm) nY mY, 0) := by unfold keyF; rw [if_pos ⟨hoY, hfY⟩]
  have hkq : keyF pq tY nY mY = (keyK tY pq nY mY, 0) := by unfold keyF; rw [if_pos ⟨hoQ, hfY⟩]
  obtain ⟨f1, f2, f3, f4, f5⟩ := order_facts p c2 c3 m n hm6 hn6
  have f6 : nm ≠ [] → Op.bytesLess (keyK 3 p 0 c3) (keyK tY (p ++ nm) nY mY) = true ∧ Op.bytesLess (keyK 3 p 0 c2) (keyK tY (p ++ nm) nY mY) = true := fun h => ⟨below_less hnv h htY, below_less hnv h htY⟩
  have pre : ∀ (t k : Int) (q mm : Bs), t = 1 ∨ t = 2 ∨ t = 3 → p.isPrefixOf (keyK t (p ++ q) k mm) = true := fun t k q mm h => by
    obtain ⟨x, r, e, _⟩ := keyK_tag (t := t) (n := k) (p := p ++ q) (m := mm) h
    rw [e, List.append_assoc]; exact prefix_self _ _
  have u1 := pre 1 0 [] [] (by simp)
  have u2 := pre 2 m [] [] (by simp)
  have u3 := pre 3 0 [] c3 (by simp)
  have u4 := pre tY nY nm mY htY
  rw [List.append_nil] at u1 u2 u3
  have u5 : p.isPrefixOf (keyK tY pq nY mY) = p.isPrefixOf pq := by
    obtain ⟨x, r, e, hx⟩ := keyK_tag (t := tY) (n := nY) (p := pq) (m := mY) htY
    rw [e]; exact under_key hpv hx
  have Hka := Lib.hid (fun wx => keyF_w 1 0 (Str p) (Str []) wx (by rw [size_Str]; omega) (by rw [size_Str]; simp))
  have Hkb := Lib.hid (fun wx => keyF_w 2 m (Str p) (Str []) wx (by rw [size_Str]; omega) (by rw [size_Str]; simp))
  have Hkc := Lib.hid (fun wx => keyF_w 2 n (Str p) (Str []) wx (by rw [size_Str]; omega) (by rw [size_Str]; simp))
  have Hkd := Lib.hid (fun wx => keyF_w 3 0 (Str p) (Str c2) wx (by rw [size_Str]; omega) (by rw [size_Str]; omega))
  have Hki := Lib.hid (fun wx => keyF_w 3 0 (Str p) (Str c3) wx (by rw [size_Str]; omega) (by rw [size_Str]; omega))
  have Hkk := Lib.hid (fun wx => keyF_w tY nY (Str (p ++ nm)) (Str mY) wx (by rw [size_Str]; simp; omega) (by rw [size_Str]; omega))
  have Hkq := Lib.hid (fun wx => keyF_w tY nY (Str pq) (Str mY) wx (by rw [size_Str]; omega) (by rw [size_Str]; omega))
  simp only [toList_Str, hka, hkb, hkc, hkd, hki, hkk, hkq] at Hka Hkb Hkc Hkd Hki Hkk Hkq
  clear hka hkb hkc hkd hki hkk hkq pre hoY hfY hoQ htY hnv
  have hpn : (p ++ nm).length ≤ 104 := by simp; omega
  generalize keyK 1 p 0 [] = ka at *
  generalize keyK 2 p m [] = kb at *
  generalize keyK 2 p n [] = kc at *
  generalize keyK 3 p 0 c2 = kd at *
  generalize keyK 3 p 0 c3 = ki at *
  generalize keyK tY (p ++ nm) nY mY = kk at *
  generalize keyK tY pq nY mY = kq at *
  have Hka' : Hid (∀ wx, Calls Try.prog 31 #[.agg #[.string (Str p), .int .i64 1, .int .i64 0, .string ⟨#[]⟩]] wx fun e w' => e = .returned (.tuple #[.string (Str ka), .int .i64 0]) ∧ Below wx.heap.size wx w') := Lib.hid (fun wx => Hka.out wx)
  have Hkb' : Hid (∀ wx, Calls Try.prog 31 #[.agg #[.string (Str p), .int .i64 2, .int .i64 (m : Int), .string ⟨#[]⟩]] wx fun e w' => e = .returned (.tuple #[.string (Str kb), .int .i64 0]) ∧ Below wx.heap.size wx w') := Lib.hid (fun wx => Hkb.out wx)
  have Hkc' : Hid (∀ wx, Calls Try.prog 31 #[.agg #[.string (Str p), .int .i64 2, .int .i64 (n : Int), .string ⟨#[]⟩]] wx fun e w' => e = .returned (.tuple #[.string (Str kc), .int .i64 0]) ∧ Below wx.heap.size wx w') := Lib.hid (fun wx => Hkc.out wx)
  clear Hka Hkb Hkc
  have HFf := Lib.hid (And.intro f1 (And.intro f2 (And.intro f3 (And.intro f4 (And.intro f5 (And.intro f6 (And.intro u1 (And.intro u2 (And.intro u3 (And.intro u4 u5))))))))))
  clear f1 f2 f3 f4 f5 f6 u1 u2 u3 u4 u5
  have Hm := Lib.hid hm
  have Hy1 := Lib.hid hy1
  have Hy2 := Lib.hid hy2
  have HP0 : Hid (P3 w #[.slice A yl.length C, .int .u8 yt, .int .u16 yn] #[.int .u16 z0, .int .u16 z1, .int .u16 z2, .int .u16 z3] ((w.alloc (.cells #[.slice A yl.length C, .int .u8 yt, .int .u16 yn] 44)).alloc (.cells #[.int .u16 z0, .int .u16 z1, .int .u16 z2, .int .u16 z3] 53))) :=
    Lib.hid ⟨(Blk.new _ _ _).alloc _, Blk.new' _ _ _ (by simp), ((Below.refl _ _).alloc (Nat.le_refl _) _).alloc (by simp) _⟩
  clear hm hy1 hy2 h0 hy hb2 hb3 hmz hnz
  unfold maxLen at hc2 hc4
  go_enter Try.func6, Try.ntmps6
  go_upto_region 3 with (first
    | (go_at_call 14; refine (sanity_w _).mono ?_; rintro e w1 ⟨rfl, hb⟩; have HP := Lib.hid (HP0.out.below hb); clear hb)
    | (go_at_call 15; refine (Hm.out _ HP.out.bel).mono ?_; rintro e w2 ⟨rfl, hb⟩; have Q := HP.out.below hb; replace HP := Lib.hid Q; (try clear g0 g1 g2 g3); have g0 : w2.cell? ⟨w.heap.size + 1, 0, none⟩ = some (.int .u16 z0) := Q.a.cell 0; have g1 : w2.cell? ⟨w.heap.size + 1, 1, none⟩ = some (.int .u16 z1) := Q.a.cell 1; have g2 : w2.cell? ⟨w.heap.size + 1, 2, none⟩ = some (.int .u16 z2) := Q.a.cell 2; have g3 : w2.cell? ⟨w.heap.size + 1, 3, none⟩ = some (.int .u16 z3) := Q.a.cell 3; clear hb Q)
    | (go_at_call_of 31 (Value.agg #[.string (Str p), .int .i64 1, .int .i64 0, .string ⟨#[]⟩]); (with_reducible refine (Hka'.out _).mono ?_); rintro e w2 ⟨rfl, hb⟩; have Q := HP.out.below hb; replace HP := Lib.hid Q; (try clear g0 g1 g2 g3); have g0 : w2.cell? ⟨w.heap.size + 1, 0, none⟩ = some (.int .u16 z0) := Q.a.cell 0; have g1 : w2.cell? ⟨w.heap.size + 1, 1, none⟩ = some (.int .u16 z1) := Q.a.cell 1; have g2 : w2.cell? ⟨w.heap.size + 1, 2, none⟩ = some (.int .u16 z2) := Q.a.cell 2; have g3 : w2.cell? ⟨w.heap.size + 1, 3, none⟩ = some (.int .u16 z3) := Q.a.cell 3; clear hb Q)
    | (go_at_call_of 31 (Value.agg #[.string (Str p), .int .i64 2, .int .i64 m, .string ⟨#[]⟩]); (with_reducible refine (Hkb'.out _).mono ?_); rintro e w2 ⟨rfl, hb⟩; have Q := HP.out.below hb; replace HP := Lib.hid Q; (try clear g0 g1 g2 g3); have g0 : w2.cell? ⟨w.heap.size + 1, 0, none⟩ = some (.int .u16 z0) := Q.a.cell 0; have g1 : w2.cell? ⟨w.heap.size + 1, 1, none⟩ = some (.int .u16 z1) := Q.a.cell 1; have g2 : w2.cell? ⟨w.heap.size + 1, 2, none⟩ = some (.int .u16 z2) := Q.a.cell 2; have g3 : w2.cell? ⟨w.heap.size + 1, 3, none⟩ = some (.int .u16 z3) := Q.a.cell 3; clear hb Q)
    | (go_at_call_of 31 (Value.agg #[.string (Str p), .int .i64 2, .int .i64 n, .string ⟨#[]⟩]); (with_reducible refine (Hkc'.out _).mono ?_); rintro e w2 ⟨rfl, hb⟩; have Q := HP.out.below hb; replace HP := Lib.hid Q; (try clear g0 g1 g2 g3); have g0 : w2.cell? ⟨w.heap.size + 1, 0, none⟩ = some (.int .u16 z0) := Q.a.cell 0; have g1 : w2.cell? ⟨w.heap.size + 1, 1, none⟩ = some (.int .u16 z1) := Q.a.cell 1; have g2 : w2.cell? ⟨w.heap.size + 1, 2, none⟩ = some (.int .u16 z2) := Q.a.cell 2; have g3 : w2.cell? ⟨w.heap.size + 1, 3, none⟩ = some (.int .u16 z3) := Q.a.cell 3; clear hb Q)
    | (go_at_call_of 33 (Value.int .u8 b2); (with_reducible refine (Hc2.out _).mono ?_); rintro e w2 ⟨rfl, hb⟩; have Q := HP.out.below hb; replace HP := Lib.hid Q; (try clear g0 g1 g2 g3); have g0 : w2.cell? ⟨w.heap.size + 1, 0, none⟩ = some (.int .u16 z0) := Q.a.cell 0; have g1 : w2.cell? ⟨w.heap.size + 1, 1, none⟩ = some (.int .u16 z1) := Q.a.cell 1; have g2 : w2.cell? ⟨w.heap.size + 1, 2, none⟩ = some (.int .u16 z2) := Q.a.cell 2; have g3 : w2.cell? ⟨w.heap.size + 1, 3, none⟩ = some (.int .u16 z3) := Q.a.cell 3; clear hb Q)
    | (go_at_call_of 31 (Value.agg #[.string (Str p), .int .i64 3, .int .i64 0, .string (Str c2)]); (with_reducible refine (Hkd.out _).mono ?_); rintro e w2 ⟨rfl, hb⟩; have Q := HP.out.below hb; replace HP := Lib.hid Q; (try clear g0 g1 g2 g3); have g0 : w2.cell? ⟨w.heap.size + 1, 0, none⟩ = some (.int .u16 z0) := Q.a.cell 0; have g1 : w2.cell? ⟨w.heap.size + 1, 1, none⟩ = some (.int .u16 z1) := Q.a.cell 1; have g2 : w2.cell? ⟨w.heap.size + 1, 2, none⟩ = some (.int .u16 z2) := Q.a.cell 2; have g3 : w2.cell? ⟨w.heap.size + 1, 3, none⟩ = some (.int .u16 z3) := Q.a.cell 3; clear hb Q)
    | (go_at_call_of 33 (Value.int .u8 b3); (with_reducible refine (Hc3.out _).mono ?_); rintro e w2 ⟨rfl, hb⟩; have Q := HP.out.below hb; replace HP := Lib.hid Q; (try clear g0 g1 g2 g3); have g0 : w2.cell? ⟨w.heap.size + 1, 0, none⟩ = some (.int .u16 z0) := Q.a.cell 0; have g1 : w2.cell? ⟨w.heap.size + 1, 1, none⟩ = some (.int .u16 z1) := Q.a.cell 1; have g2 : w2.cell? ⟨w.heap.size + 1, 2, none⟩ = some (.int .u16 z2) := Q.a.cell 2; have g3 : w2.cell? ⟨w.heap.size + 1, 3, none⟩ = some (.int .u16 z3) := Q.a.cell 3; clear hb Q)
    | (go_at_call_of 31 (Value.agg #[.string (Str p), .int .i64 3, .int .i64 0, .string (Str c3)]); (with_reducible refine (Hki.out _).mono ?_); rintro e w2 ⟨rfl, hb⟩; have Q := HP.out.below hb; replace HP := Lib.hid Q; (try clear g0 g1 g2 g3); have g0 : w2.cell? ⟨w.heap.size + 1, 0, none⟩ = some (.int .u16 z0) := Q.a.cell 0; have g1 : w2.cell? ⟨w.heap.size + 1, 1, none⟩ = some (.int .u16 z1) := Q.a.cell 1; have g2 : w2.cell? ⟨w.heap.size + 1, 2, none⟩ = some (.int .u16 z2) := Q.a.cell 2; have g3 : w2.cell? ⟨w.heap.size + 1, 3, none⟩ = some (.int .u16 z3) := Q.a.cell 3; clear hb Q)
    | fail)
  go_cut [9, 10] (fun s9 s10 wx => s9 = .int .i64 m ∧ s10 = .int .i64 n ∧ P3 w #[.slice A yl.length C, .int .u8 yt, .int .u16 yn] #[.int .u16 z0, .int .u16 z1, .int .u16 z2, .int .u16 z3] wx)
  case first =>
    go_region
    all_goals (go_wp2_with fail; go_meet)
    all_goals exact ⟨by rw [hm7], by rw [hn7], ⟨HP.out.y, HP.out.a, HP.out.bel.drew⟩⟩
  case rest =>
  obtain ⟨rfl, rfl, hP3⟩ := hcut
  replace HP := Lib.hid hP3
  clear hP3 g0 g1 g2 g3
  go_upto_region 9 with (first
    | (go_at_call 14; refine (sanity_w _).mono ?_; rintro e w1 ⟨rfl, hb⟩; have HP := Lib.hid (HP0.out.below hb); clear hb)
    | (go_at_call 15; refine (Hm.out _ HP.out.bel).mono ?_; rintro e w2 ⟨rfl, hb⟩; have Q := HP.out.below hb; replace HP := Lib.hid Q; (try clear g0 g1 g2 g3); have g0 : w2.cell? ⟨w.heap.size + 1, 0, none⟩ = some (.int .u16 z0) := Q.a.cell 0; have g1 : w2.cell? ⟨w.heap.size + 1, 1, none⟩ = some (.int .u16 z1) := Q.a.cell 1; have g2 : w2.cell? ⟨w.heap.size + 1, 2, none⟩ = some (.int .u16 z2) := Q.a.cell 2; have g3 : w2.cell? ⟨w.heap.size + 1, 3, none⟩ = some (.int .u16 z3) := Q.a.cell 3; clear hb Q)
    | (go_at_call_of 31 (Value.agg #[.string (Str p), .int .i64 1, .int .i64 0, .string ⟨#[]⟩]); (with_reducible refine (Hka'.out _).mono ?_); rintro e w2 ⟨rfl, hb⟩; have Q := HP.out.below hb; replace HP := Lib.hid Q; (try clear g0 g1 g2 g3); have g0 : w2.cell? ⟨w.heap.size + 1, 0, none⟩ = some (.int .u16 z0) := Q.a.cell 0; have g1 : w2.cell? ⟨w.heap.size + 1, 1, none⟩ = some (.int .u16 z1) := Q.a.cell 1; have g2 : w2.cell? ⟨w.heap.size + 1, 2, none⟩ = some (.int .u16 z2) := Q.a.cell 2; have g3 : w2.cell? ⟨w.heap.size + 1, 3, none⟩ = some (.int .u16 z3) := Q.a.cell 3; clear hb Q)
    | (go_at_call_of 31 (Value.agg #[.string (Str p), .int .i64 2, .int .i64 m, .string ⟨#[]⟩]); (with_reducible refine (Hkb'.out _).mono ?_); rintro e w2 ⟨rfl, hb⟩; have Q := HP.out.below hb; replace HP := Lib.hid Q; (try clear g0 g1 g2 g3); have g0 : w2.cell? ⟨w.heap.size + 1, 0, none⟩ = some (.int .u16 z0) := Q.a.cell 0; have g1 : w2.cell? ⟨w.heap.size + 1, 1, none⟩ = some (.int .u16 z1) := Q.a.cell 1; have g2 : w2.cell? ⟨w.heap.size + 1, 2, none⟩ = some (.int .u16 z2) := Q.a.cell 2; have g3 : w2.cell? ⟨w.heap.size + 1, 3, none⟩ = some (.int .u16 z3) := Q.a.cell 3; clear hb Q)
    | (go_at_call_of 31 (Value.agg #[.string (Str p), .int .i64 2, .int .i64 n, .string ⟨#[]⟩]); (with_reducible refine (Hkc'.out _).mono ?_); rintro e w2 ⟨rfl, hb⟩; have Q := HP.out.below hb; replace HP := Lib.hid Q; (try clear g0 g1 g2 g3); have g0 : w2.cell? ⟨w.heap.size + 1, 0, none⟩ = some (.int .u16 z0) := Q.a.cell 0; have g1 : w2.cell? ⟨w.heap.size + 1, 1, none⟩ = some (.int .u16 z1) := Q.a.cell 1; have g2 : w2.cell? ⟨w.heap.size + 1, 2, none⟩ = some (.int .u16 z2) := Q.a.cell 2; have g3 : w2.cell? ⟨w.heap.size + 1, 3, none⟩ = some (.int .u16 z3) := Q.a.cell 3; clear hb Q)
    | (go_at_call_of 33 (Value.int .u8 b2); (with_reducible refine (Hc2.out _).mono ?_); rintro e w2 ⟨rfl, hb⟩; have Q := HP.out.below hb; replace HP := Lib.hid Q; (try clear g0 g1 g2 g3); have g0 : w2.cell? ⟨w.heap.size + 1, 0, none⟩ = some (.int .u16 z0) := Q.a.cell 0; have g1 : w2.cell? ⟨w.heap.size + 1, 1, none⟩ = some (.int .u16 z1) := Q.a.cell 1; have g2 : w2.cell? ⟨w.heap.size + 1, 2, none⟩ = some (.int .u16 z2) := Q.a.cell 2; have g3 : w2.cell? ⟨w.heap.size + 1, 3, none⟩ = some (.int .u16 z3) := Q.a.cell 3; clear hb Q)
    | (go_at_call_of 31 (Value.agg #[.string (Str p), .int .i64 3, .int .i64 0, .string (Str c2)]); (with_reducible refine (Hkd.out _).mono ?_); rintro e w2 ⟨rfl, hb⟩; have Q := HP.out.below hb; replace HP := Lib.hid Q; (try clear g0 g1 g2 g3); have g0 : w2.cell? ⟨w.heap.size + 1, 0, none⟩ = some (.int .u16 z0) := Q.a.cell 0; have g1 : w2.cell? ⟨w.heap.size + 1, 1, none⟩ = some (.int .u16 z1) := Q.a.cell 1; have g2 : w2.cell? ⟨w.heap.size + 1, 2, none⟩ = some (.int .u16 z2) := Q.a.cell 2; have g3 : w2.cell? ⟨w.heap.size + 1, 3, none⟩ = some (.int .u16 z3) := Q.a.cell 3; clear hb Q)
    | (go_at_call_of 33 (Value.int .u8 b3); (with_reducible refine (Hc3.out _).mono ?_); rintro e w2 ⟨rfl, hb⟩; have Q := HP.out.below hb; replace HP := Lib.hid Q; (try clear g0 g1 g2 g3); have g0 : w2.cell? ⟨w.heap.size + 1, 0, none⟩ = some (.int .u16 z0) := Q.a.cell 0; have g1 : w2.cell? ⟨w.heap.size + 1, 1, none⟩ = some (.int .u16 z1) := Q.a.cell 1; have g2 : w2.cell? ⟨w.heap.size + 1, 2, none⟩ = some (.int .u16 z2) := Q.a.cell 2; have g3 : w2.cell? ⟨w.heap.size + 1, 3, none⟩ = some (.int .u16 z3) := Q.a.cell 3; clear hb Q)
    | (go_at_call_of 31 (Value.agg #[.string (Str p), .int .i64 3, .int .i64 0, .string (Str c3)]); (with_reducible refine (Hki.out _).mono ?_); rintro e w2 ⟨rfl, hb⟩; have Q := HP.out.below hb; replace HP := Lib.hid Q; (try clear g0 g1 g2 g3); have g0 : w2.cell? ⟨w.heap.size + 1, 0, none⟩ = some (.int .u16 z0) := Q.a.cell 0; have g1 : w2.cell? ⟨w.heap.size + 1, 1, none⟩ = some (.int .u16 z1) := Q.a.cell 1; have g2 : w2.cell? ⟨w.heap.size + 1, 2, none⟩ = some (.int .u16 z2) := Q.a.cell 2; have g3 : w2.cell? ⟨w.heap.size + 1, 3, none⟩ = some (.int .u16 z3) := Q.a.cell 3; clear hb Q)
    | fail)
  obtain ⟨wL, hwL⟩ : ∃ wL, wL = w2 := ⟨_, rfl⟩
  rw [← hwL] at HP ⊢
  clear hwL g0 g1 g2 g3 Hka' Hkb' Hkc' Hkd Hki
  have HL1 : Hid (Below wL.heap.size wL wL) := Lib.hid (Below.refl _ _)
  have k0 : ∀ wx, Below wL.heap.size wL wx → wx.cell? ⟨w.heap.size, 0, none⟩ = some (.slice A yl.length C) := fun wx hx => (HP.out.below hx).y.cell 0
  have k1 : ∀ wx, Below wL.heap.size wL wx → wx.cell? ⟨w.heap.size, 1, none⟩ = some (.int .u8 yt) := fun wx hx => (HP.out.below hx).y.cell 1
  have k2 : ∀ wx, Below wL.heap.size wL wx → wx.cell? ⟨w.heap.size, 2, none⟩ = some (.int .u16 yn) := fun wx hx => (HP.out.below hx).y.cell 2
  obtain ⟨kL, hkL⟩ : ∃ kL : Nat, min (yl.length : Int) 1 = (kL : Int) := ⟨(min (yl.length : Int) 1).toNat, by omega⟩
  have hkT : (min (yl.length : Int) 1).toNat = kL := by omega
  rw [hkT] at Hy1 hk1
  have hkC : kL ≤ C := by omega
  clear hkT hk3
  have G1 : Hid (∀ wx, Below wL.heap.size wL wx → Calls Try.prog 30 #[.agg #[.slice A kL C, .int .u8 t3, .int .u16 yn]] wx fun e w' => e = .returned (.agg #[.string (Str nm), .int .i64 tY, .int .i64 nY, .string (Str mY)]) ∧ Below wL.heap.size wL w' ∧ Below wx.heap.size wx w') := Lib.hid (fun wx hx => (Hy1.out wx (HP.out.below hx).bel).mono fun e w' ⟨h1, h2⟩ => ⟨h1, keepB hx h2, h2⟩)
  go_cut [21] (fun s21 wx => ∃ o : Nat, s21 = .pointer (some ⟨o, 0, none⟩) ∧ w.heap.size ≤ o ∧ Blk wx o 32 #[.string (Str nm), .int .i64 tY, .int .i64 nY, .string (Str mY)] ∧ P3 w #[.slice A yl.length C, .int .u8 yt, .int .u16 yn] #[.int .u16 z0, .int .u16 z1, .int .u16 z2, .int .u16 z3] wx)
  case first =>
    have q0 := k0 wL HL1.out
    have q1 := k1 wL HL1.out
    have q2 := k2 wL HL1.out
    have hlL : w.heap.size < wL.heap.size := HP.out.y.lt
    have hkI1 : (0 : Int) ≤ (kL : Int) := by omega
    have hkI2 : (kL : Int) ≤ (C : Int) := by omega
    have hw3 : IntKind.u8.wrap (t3 : Int) = (t3 : Int) := by rw [IntKind.wrap_u8]; omega
    clear q0 q1 q2 HFf Hy1 Hy2 Hkk Hkq Hc2 Hc3 Hm hpl hpv hnl hml hql hm6 hn6 hm7 hn7 hb2w hb3w hb2r hb3r hc2l hc3l hc2n hc3n hpn hz0 hz1 hz2 hz3 hyt hyn hc1 hc2 hc3 hc4 ht3 ht3a HP0
    go_region_held3 (fun wx => Below wL.heap.size wL wx)
      (repeat (first | with_reducible assumption | with_reducible exact HL1.out | with_reducible refine Below.drew ?_ | with_reducible refine keepA ?_ _ | with_reducible refine keepSet ?_ _ _))
      (first
        | (go_at_call 30; (with_reducible refine (G1.out _ (by repeat (first | with_reducible assumption | with_reducible exact HL1.out | with_reducible refine Below.drew ?_ | with_reducible refine keepA ?_ _))).mono ?_); rintro e2 y2 ⟨rfl, hS2, hT2⟩; (first | (have hz := blk_made hT2; have r0 := hz.cell 0; have r1 := hz.cell 1; have r2 := hz.cell 2; have r3 := hz.cell 3; have r4 := hz.free 0; have r5 := hz.free 1; have r6 := hz.free 2; have r7 := hz.free 3; simp at r0 r1 r2 r3) | (have hz := blk_madeP hT2; have r0 := hz.cell 0; have r1 := hz.cell 1; have r2 := hz.cell 2; have r3 := hz.cell 3; have r4 := hz.free 0; have r5 := hz.free 1; have r6 := hz.free 2; have r7 := hz.free 3; simp at r0 r1 r2 r3) | skip))
        | fail "no arm")
    all_goals (go_wp2_with fail; go_meet)
    · exact ⟨_, rfl, Nat.le_trans HP.out.bel.size hS2.size, Blk.new _ _ _, HP.out.below (by assumption)⟩
    all_goals exact ⟨_, rfl, HP.out.bel.size, blkSet4 hz, HP.out.below (by assumption)⟩
  case rest =>
    obtain ⟨o, rfl, ho, hB, hP⟩ := hcut
    have c0 := hB.cell 0
    have c1 := hB.cell 1
    have c2' := hB.cell 2
    have c3' := hB.cell 3
    have e0 := hB.free 0
    simp at c0 c1 c2' c3'
    have hny : w.heap.size ≠ o := by have h1 := hB.lt; intro e; subst e; unfold Blk at hB; have h2 := hP.y; unfold Blk at h2; rw [hB] at h2; simp at h2
    have hna : w.heap.size + 1 ≠ o := by have h1 := hB.lt; intro e; subst e; unfold Blk at hB; have h2 := hP.a; unfold Blk at h2; rw [hB] at h2; simp at h2
    have HP4 : Hid (P3 w #[.slice A yl.length C, .int .u8 yt, .int .u16 yn] #[.int .u16 z0, .int .u16 z1, .int .u16 z2, .int .u16 z3] (wc.setCell ⟨o, 0, none⟩ (.string (Str (p ++ nm))))) := Lib.hid ⟨hP.y.setCell_other hny _ _, hP.a.setCell_other hna _ _, hP.bel.setCell (by exact ho) _⟩
    clear hB hP k0 k1 k2 G1 HL1 HP hny hna
    go_wp2_with (first
      | (go_at_call 31; (with_reducible refine (Hkk.out _).mono ?_); rintro e w3 ⟨rfl, hb⟩; have HP5 := Lib.hid (HP4.out.below hb); clear hb)
      | fail)
    obtain ⟨f1, f2, f3, f4, f5, f6, u1, u2, u3, u4, u5⟩ := HFf.out
    obtain ⟨v4, hv4⟩ : ∃ v, v = decide (m < n) := ⟨_, rfl⟩
    obtain ⟨v5, hv5⟩ : ∃ v, v = Op.bytesLess c2 c3 := ⟨_, rfl⟩
    rw [← hv4] at f4
    rw [← hv5] at f5
    have hv4' := hv4.symm
    have hv5' := hv5.symm
    have HU := Lib.hid (And.intro u1 (And.intro u2 (And.intro u3 (And.intro u4 u5))))
    have HL2 : Hid (Below w3.heap.size w3 w3) := Lib.hid (Below.refl _ _)
    have j2 : ∀ wx, Below w3.heap.size w3 wx → wx.cell? ⟨w.heap.size + 1, 2, none⟩ = some (.int .u16 z2) := fun wx hx => (HP5.out.below hx).a.cell 2
    have j3 : ∀ wx, Below w3.heap.size w3 wx → wx.cell? ⟨w.heap.size + 1, 3, none⟩ = some (.int .u16 z3) := fun wx hx => (HP5.out.below hx).a.cell 3
    have G2 : Hid (∀ wx, Below w3.heap.size w3 wx → Calls Try.prog 33 #[.int .u8 b2] wx fun e w' => e = .returned (.string (Str c2)) ∧ Below w3.heap.size w3 w') := Lib.hid (fun wx hx => (Hc2.out wx).mono fun e w' ⟨h1, h2⟩ => ⟨h1, keepB hx h2⟩)
    have G3 : Hid (∀ wx, Below w3.heap.size w3 wx → Calls Try.prog 33 #[.int .u8 b3] wx fun e w' => e = .returned (.string (Str c3)) ∧ Below w3.heap.size w3 w') := Lib.hid (fun wx hx => (Hc3.out wx).mono fun e w' ⟨h1, h2⟩ => ⟨h1, keepB hx h2⟩)
    clear hv4 hv5 u1 u2 u3 u4 u5 c0 c1 c2' c3' e0 Hc2 Hc3 Hkk HFf hm6 hn6 hm7 hn7 hm3 hm4 hkL hk1 hkC hql hml hnl hpl hpn hc2l hc3l hc2n hc3n HP4 HP0 Hy1 Hm
    go_cut [182] (fun s9 wx => s9 = .bool false ∧ Below w3.heap.size w3 wx)
    case first =>
      by_cases hnm : nm = []
      · refine regO15_no w3 (w.heap.size + 1) m n b2 b3 z2 z3 ka kb kc kd ki kk nm c2 c3 v4 v5 j2 j3 hb2w hb3w hb2r hb3r f1 f2 f3 f4 f5 hv4' hv5' (by simp [hnm]) (by simp [hnm]) G2.out G3.out _ _ _ _ _ _ _ _ _ _ _ _ _ _ _ _ _ _ _ _ _ _ _ _ _ _ _ _ _ _ _ _ _ _ _ _ _ _ _ _ _ _ _ _ _ _ _ _ _ _ _ _ _ _ _ _ _ _ _ _ _ _ _ _ _ _ _ _ _ _ _ _ _ _ _ _ _ _ _ _ _ _ _ _ _ _ _ _ _ _ _ _ _ _ _ _ _ _ _ _ _ _ _ _ _ _ _ _ _ _ _ _ _ _ _ _ _ _ _ _ _ _ _ _ _ _ _ _ _ _ _ _ _ _ _ _ _ _ _ _ _ _ _ _ _ _ _ _ _ _ _ _ _ _ _ _ _ _ _ _ _ _ _ _ _ _ _ _ _ _ _ _ _ _ _ _ _ _ _ _ _ _ _ _ _ _ _ _ _ _ _ _ _ _ _ _ _ _ _ _ _ _ _ _ _ _ _ _ _ _ _ _ _ _ _ _ _ _ _ _ _ _ _ _ _ ?_
        intro t130 t131 t132 t133 t134 t135 t136 t137 t138 t139 t140 t141 t142 t143 t144 t145 t146 t147 t148 t149 t150 t151 t152 t153 t154 t155 t156 t157 t158 t159 t160 t161 t162 t163 t164 t165 t166 t167 t168 t169 t170 t171 t172 t173 t174 t175 t176 t177 t178 t179 t180 t181 wx hHeld
        go_wp2_with fail
        go_meet
        exact ⟨rfl, hHeld⟩
      · refine regO15_yes w3 (w.heap.size + 1) m n b2 b3 z2 z3 ka kb kc kd ki kk nm c2 c3 v4 v5 j2 j3 hb2w hb3w hb2r hb3r f1 f2 f3 f4 f5 hv4' hv5' (by simpa using hnm) (by simpa using hnm) (f6 hnm).1 (f6 hnm).2 G2.out G3.out _ _ _ _ _ _ _ _ _ _ _ _ _ _ _ _ _ _ _ _ _ _ _ _ _ _ _ _ _ _ _ _ _ _ _ _ _ _ _ _ _ _ _ _ _ _ _ _ _ _ _ _ _ _ _ _ _ _ _ _ _ _ _ _ _ _ _ _ _ _ _ _ _ _ _ _ _ _ _ _ _ _ _ _ _ _ _ _ _ _ _ _ _ _ _ _ _ _ _ _ _ _ _ _ _ _ _ _ _ _ _ _ _ _ _ _ _ _ _ _ _ _ _ _ _ _ _ _ _ _ _ _ _ _ _ _ _ _ _ _ _ _ _ _ _ _ _ _ _ _ _ _ _ _ _ _ _ _ _ _ _ _ _ _ _ _ _ _ _ _ _ _ _ _ _ _ _ _ _ _ _ _ _ _ _ _ _ _ _ _ _ _ _ _ _ _ _ _ _ _ _ _ _ _ _ _ _ _ _ _ _ _ _ _ _ _ _ _ _ _ _ _ _ _ _ ?_
        intro t130 t131 t132 t133 t134 t135 t136 t137 t138 t139 t140 t141 t142 t143 t144 t145 t146 t147 t148 t149 t150 t151 t152 t153 t154 t155 t156 t157 t158 t159 t160 t161 t162 t163 t164 t165 t166 t167 t168 t169 t170 t171 t172 t173 t174 t175 t176 t177 t178 t179 t180 t181 wx hHeld
        go_wp2_with fail
        go_meet
        exact ⟨rfl, hHeld⟩
    case rest =>
      obtain ⟨rfl, hbw⟩ := hcut
      have HP6 := Lib.hid (HP5.out.below hbw)
      obtain ⟨u1, u2, u3, u4, u5⟩ := HU.out
      have Ha := Lib.hid (fun wx => under_w (Str ka) (Str p) wx)
      have Hb := Lib.hid (fun wx => under_w (Str kb) (Str p) wx)
      have Hi := Lib.hid (fun wx => under_w (Str ki) (Str p) wx)
      have Hk := Lib.hid (fun wx => under_w (Str kk) (Str p) wx)
      have Hq1 := Lib.hid (fun wx => under_w (Str kq) (Str p) wx)
      have Hq2 := Lib.hid (fun wx => under_w (Str pq) (Str p) wx)
      simp only [toList_Str, u1, u2, u3, u4, u5] at Ha Hb Hi Hk Hq1 Hq2
      generalize p.isPrefixOf pq = vq at *
      have q0 : wc.cell? ⟨w.heap.size, 0, none⟩ = some (.slice A yl.length C) := HP6.out.y.cell 0
      have q1 : wc.cell? ⟨w.heap.size, 1, none⟩ = some (.int .u8 yt) := HP6.out.y.cell 1
      have q2 : wc.cell? ⟨w.heap.size, 2, none⟩ = some (.int .u16 yn) := HP6.out.y.cell 2
      have hm3 : (yt : Int) % 3 = (t3 : Int) := by omega
      have hm4 : (yt : Int).tmod 3 = (t3 : Int) := by rw [Int.tmod_eq_emod_of_nonneg (by omega)]; omega
      clear u1 u2 u3 u4 u5 HU HP5 hbw f1 f2 f3 f4 f5 f6 j2 j3 G2 G3 HL2 hv4' hv5' hyt hyn hz0 hz1 hz2 hz3 hc1 hc2 hc3 hc4 ht3 ht3a hpv hb2w hb3w hb2r hb3r ho
      go_wp2_with (first
        | (go_at_call_of 26 (Value.string (Str ka)); (with_reducible refine (Ha.out _).mono ?_); rintro e2 y2 ⟨rfl, rfl⟩)
        | (go_at_call_of 26 (Value.string (Str kb)); (with_reducible refine (Hb.out _).mono ?_); rintro e3 y3 ⟨rfl, rfl⟩)
        | (go_at_call_of 26 (Value.string (Str ki)); (with_reducible refine (Hi.out _).mono ?_); rintro e4 y4 ⟨rfl, rfl⟩)
        | (go_at_call_of 26 (Value.string (Str kk)); (with_reducible refine (Hk.out _).mono ?_); rintro e5 y5 ⟨rfl, rfl⟩)
        | (go_at_call 30; (with_reducible refine (Hy2.out _ HP6.out.bel).mono ?_); rintro e w4 ⟨rfl, hb⟩; have HE4 := Lib.hid (Below.next HP6.out.bel (Nat.le_refl _) hb); have HX4 := Lib.hid (XAt.new pq tY nY mY w4); clear hb)
        | (go_at_call 31; (with_reducible refine (Hkq.out _).mono ?_); rintro e w5 ⟨rfl, hb⟩; have HB5 := Lib.hid (HX4.out.below hb).1; have HE5 := Lib.hid (Below.next (Below.next HE4.out (Nat.le_refl _) HX4.out.2) (Nat.le_refl _) hb); clear hb)
        | fail)
      have HL5 : Hid (Below w5.heap.size w5 w5) := Lib.hid (Below.refl _ _)
      have k0 : ∀ wx, Below w5.heap.size w5 wx → wx.cell? ⟨w4.heap.size, 0, none⟩ = some (.string (Str pq)) := fun wx hx => (HB5.out.below hx HB5.out.lt).cell 0
      have G6 : Hid (∀ wx, Below w5.heap.size w5 wx → Calls Try.prog 26 #[.string (Str kq), .string (Str p)] wx fun e w' => e = .returned (.bool vq) ∧ Below w5.heap.size w5 w') := Lib.hid (fun wx hx => (Hq1.out wx).mono fun e w' ⟨h1, h2⟩ => ⟨h1, h2 ▸ hx⟩)
      have G7 : Hid (∀ wx, Below w5.heap.size w5 wx → Calls Try.prog 26 #[.string (Str pq), .string (Str p)] wx fun e w' => e = .returned (.bool vq) ∧ Below w5.heap.size w5 w') := Lib.hid (fun wx hx => (Hq2.out wx).mono fun e w' ⟨h1, h2⟩ => ⟨h1, h2 ▸ hx⟩)
      clear Hq1 Hq2 Hkq q0 q1 q2
      cases vq
      all_goals
        go_region_held3 (fun wx => Below w5.heap.size w5 wx)
          (repeat (first | with_reducible assumption | with_reducible exact HL5.out | with_reducible refine Below.drew ?_))
          (first
            | (go_at_call_of 26 (Value.string (Str kq)); (with_reducible refine (G6.out _ (by repeat (first | with_reducible assumption | with_reducible exact HL5.out | with_reducible refine Below.drew ?_))).mono ?_); rintro e2 y2 ⟨rfl, hS2⟩)
            | (go_at_call_of 26 (Value.string (Str pq)); (with_reducible refine (G7.out _ (by repeat (first | with_reducible assumption | with_reducible exact HL5.out | with_reducible refine Below.drew ?_))).mono ?_); rintro e3 y3 ⟨rfl, hS3⟩)
            | fail "no arm")
      all_goals
        clear hS2
        go_wp2
        go_ret
        exact ⟨rfl, HE5.out.trans (hS3.mono HE5.out.size)⟩

end Go.Proofs.Yticlomakmcjcfaa

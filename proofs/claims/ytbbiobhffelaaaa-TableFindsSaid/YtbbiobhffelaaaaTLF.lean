/-
  The walk of the law TableFinds.
-/
import Derived.Test.YtbbiobhffelaaaaTU
namespace Go.Proofs.Ytbbiobhffelaaaa
open Go.RowKit Go.Sort
set_option linter.unusedVariables false

/-- The raw pair's box, and nothing that was there has changed. -/
structure SBf (w : World) (a b c : Nat) (wr : World) : Prop where
  b : Blk wr w.heap.size 47 #[.int .u8 a, .int .u8 b, .int .u8 c]
  g : Below w.heap.size w wr
@[reducible] def st3 (w : World) (n : Nat) (y0 y1 y2 : Value) : World := ((w.setCell ⟨n, 0, none⟩ y0).setCell ⟨n, 1, none⟩ y1).setCell ⟨n, 2, none⟩ y2
theorem Blk.set3 {w : World} {n : Nat} {T : TypeId} {x0 x1 x2 : Value} (h : Blk w n T #[x0, x1, x2]) (y0 y1 y2 : Value) : Blk (st3 w n y0 y1 y2) n T #[y0, y1, y2] :=
  ((h.setCell 0 y0).setCell 1 y1).setCell 2 y2
theorem Blk.other3 {w : World} {m n : Nat} {T : TypeId} {cs : Array Value} (h : Blk w m T cs) (hne : m ≠ n) (y0 y1 y2 : Value) : Blk (st3 w n y0 y1 y2) m T cs :=
  ((h.setCell_other hne 0 y0).setCell_other hne 1 y1).setCell_other hne 2 y2
section
variable {w wx wy : World} {a b c : Nat}
theorem SBf.below (h : SBf w a b c wx) (hb : Below wx.heap.size wx wy) : SBf w a b c wy := ⟨h.b.below hb h.b.lt, h.g.trans (hb.mono h.g.size)⟩
theorem SBf.drew (h : SBf w a b c wx) : SBf w a b c wx.drew := h.below (below_drewN wx 1)
theorem SBf.alloc (h : SBf w a b c wx) (o : Obj) : SBf w a b c (wx.alloc o) := h.below (below_box _)
theorem SBf.set3 (h : SBf w a b c wx) (n : Nat) (hn : w.heap.size < n) (y0 y1 y2 : Value) : SBf w a b c (st3 wx n y0 y1 y2) :=
  ⟨h.b.other3 (Nat.ne_of_lt hn) _ _ _, ((h.g.setCell (Nat.le_of_lt hn) _).setCell (Nat.le_of_lt hn) _).setCell (Nat.le_of_lt hn) _⟩
theorem SBf.lt (h : SBf w a b c wx) (hb : Below wx.heap.size wx wy) : w.heap.size < wy.heap.size := (h.below hb).b.lt
end
/-- The list does not lie in this block. -/
def OffB (n : Nat) (p : Option Addr) (l : List Pr) : Prop := l = [] ∨ ∀ a, p = some a → a.block ≠ n
theorem IsPairs.off_size {w : World} {p : Option Addr} {k c n : Nat} {l : List Pr} (h : IsPairs w (.slice p k c) l) (hn : w.heap.size ≤ n) : OffB n p l := by
  obtain ⟨a', cap', h1, h2, h3, h5, h4⟩ := h
  cases h1
  by_cases hl : l = []
  · exact .inl hl
  · obtain ⟨b, off, rfl, hlt, -⟩ := h4 hl
    refine .inr fun a ha => ?_
    cases ha
    exact Nat.ne_of_lt (Nat.lt_of_lt_of_le hlt hn)
theorem IsPairs.set3 {w : World} {p : Option Addr} {k c : Nat} {l : List Pr} (h : IsPairs w (.slice p k c) l) {n : Nat} (ho : OffB n p l) (y0 y1 y2 : Value) : IsPairs (st3 w n y0 y1 y2) (.slice p k c) l := by
  obtain ⟨a', cap', h1, h2, h3, h5, h4⟩ := h
  cases h1
  refine ⟨_, c, rfl, h2, h3, h5, fun hl => ?_⟩
  obtain ⟨b, off, rfl, hlt, hc⟩ := h4 hl
  have hne : b ≠ n := by rcases ho with ho | ho; exact absurd ho hl; exact ho _ rfl
  refine ⟨b, off, rfl, by simpa [st3, World.setCell] using hlt, fun i hi => ?_⟩
  have hk : ∀ (j : Nat), (st3 w n y0 y1 y2).cell? ⟨b, j, none⟩ = w.cell? ⟨b, j, none⟩ := fun j => by
    unfold st3
    rw [World.cell?_setCell_far _ _ _ _ (by exact hne.symm), World.cell?_setCell_far _ _ _ _ (by exact hne.symm), World.cell?_setCell_far _ _ _ _ (by exact hne.symm)]
  rw [hk, hk, hk]; exact hc i hi
/-- A list comes back, in a block of its own. -/
def MOut (wr : World) (T : List Pr) (e : Ending) (w' : World) : Prop :=
  ∃ p c, e = .returned (.slice p T.length c) ∧ IsPairs w' (.slice p T.length c) T ∧ (∀ n, n < wr.heap.size → OffB n p T) ∧ Below wr.heap.size wr w'
theorem OwnOut.mout {wr : World} {T : List Pr} {e : Ending} {w' : World} (h : OwnOut wr.heap.size wr T e w') : MOut wr T e w' := by
  obtain ⟨v', h1, h2, h3, h4⟩ := h
  rcases h2.2 with ⟨rfl, h0⟩ | ⟨g, cap, cur, rfl, hb, hg, hn, hm, hsz, htk⟩
  · have hT : T = [] := List.length_eq_zero_iff.1 h0
    subst hT
    exact ⟨none, 0, h1, h3, fun n _ => .inl rfl, h4⟩
  · refine ⟨_, cap, h1, h3, fun n hn => .inr fun a ha => ?_, h4⟩
    cases ha
    exact Nat.ne_of_gt (Nat.lt_of_lt_of_le hn hb)
theorem blk_made {W w' : World} {cs : Array Value} {T : TypeId} (hb : Below (W.alloc (.cells cs T)).heap.size (W.alloc (.cells cs T)) w') : Blk w' W.heap.size T cs := (Blk.new W T cs).below hb (by simp)
theorem blk_made_d {W w' : World} {cs : Array Value} {T : TypeId} (hb : Below (W.alloc (.cells cs T)).drew.heap.size (W.alloc (.cells cs T)).drew w') : Blk w' W.heap.size T cs :=
  Blk.below (w := (W.alloc (.cells cs T)).drew) (show Blk (W.alloc (.cells cs T)).drew _ _ _ from Blk.new W T cs) hb (by show W.heap.size < (W.alloc _).heap.size; simp)

theorem neq_self (k x : Bs) (t : Int) (w : World) : (binOp .neq 30 (.agg #[.string (Str k), .string (Str x), .int .i64 t]) (.agg #[.string (Str k), .string (Str x), .int .i64 t])).run Try.prog w = .ok (.bool false) w :=
  (neq_pair k x t k x t w).trans (by simp [prQ])
theorem eql_self (k x : Bs) (t : Int) (w : World) : (binOp .eql 30 (.agg #[.string (Str k), .string (Str x), .int .i64 t]) (.agg #[.string (Str k), .string (Str x), .int .i64 t])).run Try.prog w = .ok (.bool true) w :=
  (eql_pair k x t k x t w).trans (by simp [prQ])
/-- Nothing that was there has changed; these values are these lists; these blocks are these pairs. -/
structure StB (w : World) (L : List (Value × List Pr)) (B : List (Nat × Pr)) (wr : World) : Prop where
  s : St w L wr
  b : ∀ y ∈ B, Blk wr y.1 30 #[.string (Str y.2.1), .string (Str y.2.2.1), .int .i64 y.2.2.2]
section
variable {w wx wy : World} {L : List (Value × List Pr)} {B : List (Nat × Pr)}
theorem StB.below (h : StB w L B wx) (hb : Below wx.heap.size wx wy) : StB w L B wy := ⟨h.s.below hb, fun y hy => (h.b y hy).below hb (h.b y hy).lt⟩
theorem StB.drew (h : StB w L B wx) : StB w L B wx.drew := h.below (below_drewN wx 1)
theorem StB.alloc (h : StB w L B wx) (o : Obj) : StB w L B (wx.alloc o) := h.below (below_box _)
theorem StB.at (h : StB w L B wx) {n : Nat} {x : Pr} (hm : (n, x) ∈ B) : Blk wx n 30 #[.string (Str x.1), .string (Str x.2.1), .int .i64 x.2.2] := h.b _ hm
theorem StB.add (h : StB w L B wx) {v : Value} {l : List Pr} (hp : IsPairs wx v l) : StB w ((v, l) :: L) B wx := ⟨h.s.add hp, h.b⟩
theorem StB.box (h : StB w L B wx) (k x : Bs) (t : Int) : StB w L ((wx.heap.size, (k, x, t)) :: B) (wx.alloc (.cells #[.string (Str k), .string (Str x), .int .i64 t] 30)) := ⟨h.s.alloc _, fun y hy => by
  rcases List.mem_cons.1 hy with rfl | hy
  · exact Blk.new _ _ _
  · exact (h.b y hy).alloc _⟩
theorem stb_find (h : StB w L B wx) {va : Value} (a : List Pr) (k : Bs) (ha : (va, a) ∈ L) (sa : Srt a) (la : a.length ≤ 20000) : Calls Try.prog 14 #[va, .string (Str k)] wx fun e w' => e = .returned (findV a k) ∧ StB w L B w' :=
  (find_w va a k wx (h.s.at ha) sa (by omega)).mono fun _ _ ⟨h1, h2⟩ => ⟨h1, h.below h2⟩
theorem stb_rvalid (h : StB w L B wx) {va : Value} (a : List Pr) (ha : (va, a) ∈ L) (la : a.length ≤ 20000) : Calls Try.prog 31 #[va] wx fun e w' => e = .returned (.bool (validB a)) ∧ StB w L B w' :=
  (rvalid_w va a wx (h.s.at ha) (by omega)).mono fun _ _ ⟨h1, _, h2⟩ => ⟨h1, by rw [h2]; exact h.below (below_drewN _ _)⟩
theorem mput_w {v : Value} (l : List Pr) (k x : Bs) (t : Int) (wr : World) (h : IsPairs wr v l) (hs : Srt l) (hl : l.length ≤ 50000) (hk : k.length ≤ 200) (hx : x.length ≤ 200) :
    Calls Try.prog 22 #[v, .agg #[.string (Str k), .string (Str x), .int .i64 t]] wr (MOut wr (putS (k, x, t) l)) := (put_w v l k x t wr h hs hl (by omega) (by unfold maxLen; omega)).mono fun _ _ hh => OwnOut.mout hh
theorem mdel_w {v : Value} (l : List Pr) (k : Bs) (wr : World) (h : IsPairs wr v l) (hs : Srt l) (hl : l.length ≤ 50000) (hk : k.length ≤ 200) :
    Calls Try.prog 23 #[v, .string (Str k)] wr (MOut wr (delS k l)) := (del_w v l k wr h hs hl (by omega)).mono fun _ _ hh => OwnOut.mout hh
end

set_option maxRecDepth 100000 in
set_option maxHeartbeats 8000000 in
theorem tableFinds_walk0 (hsan : SanityW) (w : World) (v0 : Value) (l : List Rw) (h0 : IsRaws w v0 l) (v1 : Value) (x : Rw) (h1 : IsU8x3 w v1 x) (v2 : Value) (m : Nat) (h2 : IsU8 w v2 m) :
    Calls Try.prog 5 #[v0, v1, v2] w fun e w' => e = .returned (.bool true) ∧ Below w.heap.size w w' := by
  obtain ⟨xa, xb, xc⟩ := x
  obtain ⟨rfl, hxa, hxb, hxc⟩ := h1
  obtain ⟨rfl, hm⟩ := h2
  simp only at hxa hxb hxc
  have H0 := Lib.hid h0
  have Hsan := Lib.hid hsan
  have Hpr := Lib.hid (fun wx => pair_w xa xb xc wx hxa hxb hxc)
  have Hky := Lib.hid (fun wx => key_w m wx hm)
  have Hmd := Lib.hid (fun wr (h : SBf w xa xb xc wr) => (made_w v0 l wr (H0.out.below h.g)).mono (fun _ _ hh => OwnOut.mout hh))
  have sT := Lib.hid (srt_made l)
  have nT := made_len l
  have hk1 := keyS_len xa
  have hk2 := keyS_len m
  have hk3 : (valL.getD (xb % 4) []).length ≤ 10 := getD_len (L := valL) (b := 10) (by decide) _
  clear h0 hsan
  generalize madeS l = T at *
  generalize keyS xa = pk at *
  generalize valL.getD (xb % 4) [] = pv at *
  generalize ((xc % 4 : Nat) : Int) = pt at *
  generalize keyS m = k at *
  have sP := Lib.hid (srt_put (pk, pv, pt) sT.out)
  have sD := Lib.hid (srt_del pk sT.out)
  have nP : (putS (pk, pv, pt) T).length ≤ 20000 := Nat.le_trans (put_length (pk, pv, pt) T) (by omega)
  have nD : (delS pk T).length ≤ 20000 := Nat.le_trans (Nat.le_trans (List.length_filter_le _ _) nT) (by omega)
  have nT' : T.length ≤ 20000 := by omega
  have Hput := Lib.hid (fun p c n wr (h : StB w [(.slice p T.length c, T)] [(n, (pk, pv, pt))] wr) => mput_w (v := .slice p T.length c) T pk pv pt wr (h.s.at (by simp)) sT.out (by omega) (by omega) (by omega))
  have Hdel := Lib.hid (fun p c n wr (h : StB w [(.slice p T.length c, T)] [(n, (pk, pv, pt))] wr) => mdel_w (v := .slice p T.length c) T pk wr (h.s.at (by simp)) sT.out (by omega) (by omega))
  have Hpf : Hid (findV (putS (pk, pv, pt) T) pk = .tuple #[.agg #[.string (Str pk), .string (Str pv), .int .i64 pt], .bool true]) := Lib.hid (findV_some (put_find (pk, pv, pt) sT.out))
  have Hdf := Lib.hid (findV_none (del_find pk T))
  have Hvp := Lib.hid ((validB_iff _).2 sP.out)
  have Hvd := Lib.hid ((validB_iff _).2 sD.out)
  have Hpo : Hid (k ≠ pk → findV (putS (pk, pv, pt) T) k = findV T k) := Lib.hid (fun h => by unfold findV; rw [put_other (pk, pv, pt) sT.out k h])
  have Hdo : Hid (k ≠ pk → findV (delS pk T) k = findV T k) := Lib.hid (fun h => by unfold findV; rw [del_other pk sT.out k h])
  have Hfv : Hid (∃ fk fv ft fb, findV T k = .tuple #[.agg #[.string (Str fk), .string (Str fv), .int .i64 ft], .bool fb]) := Lib.hid (by
    cases e : findS k T with
    | none => exact ⟨_, _, _, _, findV_none e⟩
    | some y => exact ⟨_, _, _, _, findV_some e⟩)
  generalize putS (pk, pv, pt) T = P at *
  generalize delS pk T = D at *
  clear hxa hxb hxc hm hk1 hk2 hk3 nT
  have Hnq := Lib.hid (fun wr => neq_self pk pv pt wr)
  go_enter Try.func5, Try.ntmps5
  go_wp2_with fail
  refine (Hsan.out _).mono ?_
  rintro e w1 ⟨rfl, hb1⟩
  have hs1 : SBf w xa xb xc w1 := ⟨(Blk.new _ _ _).below hb1 (by simp), (below_box _).trans (hb1.mono (by simp))⟩
  have HS1 := Lib.hid hs1
  have hl1 := hs1.b.lt
  clear hb1 hs1
  go_upto_region 2 with fail
  go_cut [8, 9, 10] (fun s8 s9 s10 wx => ∃ p c n, s8 = .slice p T.length c ∧ s9 = .pointer (some ⟨n, 0, none⟩) ∧ s10 = .string (Str k) ∧ Hid (StB w [(.slice p T.length c, T)] [(n, (pk, pv, pt))] wx))
  case first =>
    have q0 : ∀ wr, SBf w xa xb xc wr → wr.cell? ⟨w.heap.size, 0, none⟩ = some (.int .u8 xa) := fun wr h => h.b.c0 0 _ rfl
    have q1 : ∀ wr, SBf w xa xb xc wr → wr.cell? ⟨w.heap.size, 1, none⟩ = some (.int .u8 xb) := fun wr h => h.b.c0 1 _ rfl
    have q2 : ∀ wr, SBf w xa xb xc wr → wr.cell? ⟨w.heap.size, 2, none⟩ = some (.int .u8 xc) := fun wr h => h.b.c0 2 _ rfl
    go_region_held3 (fun wr => SBf w xa xb xc wr)
      (first | with_reducible assumption | exact HS1.out.drew | exact (HS1.out.alloc _).drew | exact SBf.below (by with_reducible assumption) (by with_reducible assumption) | exact SBf.alloc (by with_reducible assumption) _ | exact SBf.set3 (by with_reducible assumption) _ (by with_reducible assumption) _ _ _ | exact SBf.set3 (SBf.alloc (by with_reducible assumption) _) _ (by with_reducible assumption) _ _ _)
      (first
        | (go_at_call 11; (with_reducible refine (Hmd.out _ (by assumption)).mono ?_); rintro e w2 ⟨p2, c2, rfl, hp2, ho2, hb2⟩; have hs2 : SBf w xa xb xc w2 := SBf.below (by assumption) hb2; have hl2 := hs2.b.lt; (first | (have hz := blk_made_d hb2; have hoff := ho2 w1.heap.size (by simp); have d0 := hz.c0 0 _ rfl; have d1 := hz.c0 1 _ rfl; have d2 := hz.c0 2 _ rfl; have g0 := hz.free 0; have g1 := hz.free 1; have g2 := hz.free 2) | skip))
        | (go_at_call 32; (with_reducible refine (Hpr.out _).mono ?_); rintro e w3 ⟨rfl, hb3⟩; have hs3 : SBf w xa xb xc w3 := SBf.below (by assumption) hb3; have hl3 := hs3.b.lt; (first | (have hp3 := pairs_below hb3 hp2; have hoff3 := fun n (hn : w3.heap.size ≤ n) => IsPairs.off_size hp3 hn) | (have hp3 := pairs_below hb3 (hp2.alloc _); have hoff3 := fun n (hn : w3.heap.size ≤ n) => IsPairs.off_size hp3 hn)); (first | (have hz3 := hz.below hb3 hz.lt; have d0 := hz3.c0 0 _ rfl; have d1 := hz3.c0 1 _ rfl; have d2 := hz3.c0 2 _ rfl; have g0 := hz3.free 0; have g1 := hz3.free 1; have g2 := hz3.free 2) | (have hz3 := blk_made hb3; have hoff := hp2.off_size (Nat.le_refl _); have d0 := hz3.c0 0 _ rfl; have d1 := hz3.c0 1 _ rfl; have d2 := hz3.c0 2 _ rfl; have g0 := hz3.free 0; have g1 := hz3.free 1; have g2 := hz3.free 2) | skip))
        | (go_at_call 15; (with_reducible refine (Hky.out _).mono ?_); rintro e w4 ⟨rfl, hb4⟩; have hs4 : SBf w xa xb xc w4 := SBf.below (by assumption) hb4; have hl4 := hs4.b.lt; (first | (have hp4 := pairs_below hb4 hp3) | (have hp4 := pairs_below hb4 (hp3.alloc _)) | (have hp4 := pairs_below hb4 (hp3.set3 hoff _ _ _)); have hz4 := Blk.below (hz3.set3 _ _ _) hb4 (hz3.set3 _ _ _).lt)); (first | (have hz4 := hz3.below hb4 hz3.lt; have d0 := hz4.c0 0 _ rfl; have d1 := hz4.c0 1 _ rfl; have d2 := hz4.c0 2 _ rfl; have g0 := hz4.free 0; have g1 := hz4.free 1; have g2 := hz4.free 2) | (have hz4 := blk_made hb4; have hoff := hp3.off_size (Nat.le_refl _); have d0 := hz4.c0 0 _ rfl; have d1 := hz4.c0 1 _ rfl; have d2 := hz4.c0 2 _ rfl; have g0 := hz4.free 0; have g1 := hz4.free 1; have g2 := hz4.free 2) | skip))
    all_goals
      clear q0 q1 q2
      go_wp2_with fail
      go_meet
      first
        | exact ⟨p2, c2, _, rfl, rfl, rfl, Lib.hid (StB.box ⟨(St.start hs4.g).add hp4, fun y hy => by cases hy⟩ pk pv pt)⟩
        | exact ⟨p2, c2, _, rfl, rfl, rfl, Lib.hid ⟨(St.start (hs4.set3 _ hl3 _ _ _).g).add (hp4.set3 hoff _ _ _), fun y hy => by rw [List.mem_singleton.1 hy]; exact hz4.set3 _ _ _⟩⟩
        | exact ⟨p2, c2, _, rfl, rfl, rfl, Lib.hid ⟨(St.start (hs4.set3 _ hl2 _ _ _).g).add (hp4.set3 hoff _ _ _), fun y hy => by rw [List.mem_singleton.1 hy]; exact hz4.set3 _ _ _⟩⟩
        | exact ⟨p2, c2, _, rfl, rfl, rfl, Lib.hid ⟨(St.start (hs4.set3 _ hl1 _ _ _).g).add (hp4.set3 hoff _ _ _), fun y hy => by rw [List.mem_singleton.1 hy]; exact hz4.set3 _ _ _⟩⟩
  case rest =>
    obtain ⟨pt0, ct0, n, rfl, rfl, rfl, HS⟩ := hcut
    clear HS1 Hsan Hpr Hky Hmd H0
    go_upto_region 3 with fail
    go_cut [11, 12] (fun s11 s12 wx => ∃ p5 c5 p6 c6, s11 = .slice p5 P.length c5 ∧ s12 = .slice p6 D.length c6 ∧ Hid (StB w [(.slice p5 P.length c5, P), (.slice p6 D.length c6, D), (.slice pt0 T.length ct0, T)] [(n, (pk, pv, pt))] wx))
    case first =>
      have q0 : ∀ wr, StB w [(.slice pt0 T.length ct0, T)] [(n, (pk, pv, pt))] wr → wr.cell? ⟨n, 0, none⟩ = some (.string (Str pk)) := fun wr h => (h.at (n := n) (x := (pk, pv, pt)) (by simp)).c0 0 _ rfl
      have q1 : ∀ wr, StB w [(.slice pt0 T.length ct0, T)] [(n, (pk, pv, pt))] wr → wr.cell? ⟨n, 1, none⟩ = some (.string (Str pv)) := fun wr h => (h.at (n := n) (x := (pk, pv, pt)) (by simp)).c0 1 _ rfl
      have q2 : ∀ wr, StB w [(.slice pt0 T.length ct0, T)] [(n, (pk, pv, pt))] wr → wr.cell? ⟨n, 2, none⟩ = some (.int .i64 pt) := fun wr h => (h.at (n := n) (x := (pk, pv, pt)) (by simp)).c0 2 _ rfl
      go_region_held3 (fun wr => StB w [(.slice pt0 T.length ct0, T)] [(n, (pk, pv, pt))] wr)
        (first | with_reducible assumption | exact HS.out.drew | exact StB.below (by with_reducible assumption) (by with_reducible assumption))
        (first
          | (go_at_call 22; (with_reducible refine (Hput.out _ _ _ _ (by assumption)).mono ?_); rintro e w5 ⟨p5, c5, rfl, hp5, -, hb5⟩)
          | (go_at_call 23; (with_reducible refine (Hdel.out _ _ _ _ (by assumption)).mono ?_); rintro e w6 ⟨p6, c6, rfl, hp6, -, hb6⟩; have hp56 := pairs_below hb6 hp5))
      all_goals
        have hfin : StB w [(.slice pt0 T.length ct0, T)] [(n, (pk, pv, pt))] w6 := by with_reducible assumption
        clear q0 q1 q2
        have Hfin := Lib.hid ((hfin.add hp6).add hp56)
        go_wp2_with fail
        go_meet
        exact ⟨p5, c5, p6, c6, rfl, rfl, Hfin⟩
    case rest =>
      obtain ⟨p5, c5, p6, c6, rfl, rfl, HF⟩ := hcut
      clear HS Hput Hdel
      have z0 := (HF.out.at (n := n) (x := (pk, pv, pt)) (by simp)).c0 0 _ rfl
      go_wp2_with fail
      refine (stb_find HF.out P pk (by simp) sP.out nP).mono ?_
      rw [Hpf.out]
      rintro e w7 ⟨rfl, hst⟩
      replace HF := Lib.hid (hst.box pk pv pt)
      clear hst z0
      have z0 := (HF.out.at (n := n) (x := (pk, pv, pt)) (by simp)).c0 0 _ rfl
      go_wp2_with fail
      refine (stb_find HF.out D pk (by simp) sD.out nD).mono ?_
      rw [Hdf.out]
      rintro e w8 ⟨rfl, hst⟩
      replace HF := Lib.hid (hst.box [] [] 0)
      clear hst z0
      go_wp2_with fail
      refine (stb_rvalid HF.out P (by simp) nP).mono ?_
      rw [Hvp.out]
      rintro e w9 ⟨rfl, hst⟩
      replace HF := Lib.hid hst
      clear hst
      go_wp2_with fail
      refine (stb_rvalid HF.out D (by simp) nD).mono ?_
      rw [Hvd.out]
      rintro e w10 ⟨rfl, hst⟩
      replace HF := Lib.hid hst
      clear hst
      have hnq := Hnq.out
      have z0 := (HF.out.at (n := n) (x := (pk, pv, pt)) (by simp)).c0 0 _ rfl
      have z1 := (HF.out.at (n := n) (x := (pk, pv, pt)) (by simp)).c0 1 _ rfl
      have z2 := (HF.out.at (n := n) (x := (pk, pv, pt)) (by simp)).c0 2 _ rfl
      have y0 := (HF.out.at (n := w7.heap.size) (x := (pk, pv, pt)) (by simp)).c0 0 _ rfl
      have y1 := (HF.out.at (n := w7.heap.size) (x := (pk, pv, pt)) (by simp)).c0 1 _ rfl
      have y2 := (HF.out.at (n := w7.heap.size) (x := (pk, pv, pt)) (by simp)).c0 2 _ rfl
      by_cases hk : k = pk
      · have Hg := Lib.hid HF.out.s.g
        have hkb : (k == pk) = true := by rw [hk]; simp
        clear HF hk
        go_wp2
        go_ret
        exact ⟨rfl, Hg.out⟩
      · obtain ⟨fk, fv, ft, fb, hfv⟩ := Hfv.out
        have Hf0 := Lib.hid hfv
        have Hf1 := Lib.hid ((Hpo.out hk).trans hfv)
        have Hf2 := Lib.hid ((Hdo.out hk).trans hfv)
        have hkb : (k == pk) = false := by simpa using hk
        clear hfv Hpo Hdo Hfv
        go_wp2_with fail
        refine (stb_find HF.out T k (by simp) sT.out nT').mono ?_
        rw [Hf0.out]
        rintro e w11 ⟨rfl, hst⟩
        replace HF := Lib.hid (hst.box fk fv ft)
        clear hst z0 z1 z2 y0 y1 y2 hnq
        go_wp2_with fail
        refine (stb_find HF.out P k (by simp) sP.out nP).mono ?_
        rw [Hf1.out]
        rintro e w12 ⟨rfl, hst⟩
        replace HF := Lib.hid (hst.box fk fv ft)
        clear hst
        go_wp2_with fail
        refine (stb_find HF.out D k (by simp) sD.out nD).mono ?_
        rw [Hf2.out]
        rintro e w13 ⟨rfl, hst⟩
        have HF := Lib.hid (hst.box fk fv ft)
        clear hst
        have a0 := (HF.out.at (n := w11.heap.size) (x := (fk, fv, ft)) (by simp)).c0 0 _ rfl
        have a1 := (HF.out.at (n := w11.heap.size) (x := (fk, fv, ft)) (by simp)).c0 1 _ rfl
        have a2 := (HF.out.at (n := w11.heap.size) (x := (fk, fv, ft)) (by simp)).c0 2 _ rfl
        have b0 := (HF.out.at (n := w12.heap.size) (x := (fk, fv, ft)) (by simp)).c0 0 _ rfl
        have b1 := (HF.out.at (n := w12.heap.size) (x := (fk, fv, ft)) (by simp)).c0 1 _ rfl
        have b2 := (HF.out.at (n := w12.heap.size) (x := (fk, fv, ft)) (by simp)).c0 2 _ rfl
        have d0 := (HF.out.at (n := w13.heap.size) (x := (fk, fv, ft)) (by simp)).c0 0 _ rfl
        have d1 := (HF.out.at (n := w13.heap.size) (x := (fk, fv, ft)) (by simp)).c0 1 _ rfl
        have d2 := (HF.out.at (n := w13.heap.size) (x := (fk, fv, ft)) (by simp)).c0 2 _ rfl
        have heq := fun wr => eql_self fk fv ft wr
        have Hg := Lib.hid HF.out.s.g
        clear HF
        cases fb
        all_goals
          go_wp2
          go_ret
          exact ⟨rfl, Hg.out⟩

end Go.Proofs.Ytbbiobhffelaaaa

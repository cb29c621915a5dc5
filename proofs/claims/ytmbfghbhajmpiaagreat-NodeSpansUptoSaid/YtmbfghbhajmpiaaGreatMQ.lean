/-
  Walks: Parse.
-/
import Derived.Test.YtmbfghbhajmpiaaGreatKB
namespace Go.Proofs.YtmbfghbhajmpiaaGreat
open Go.RowKit Go.Sort
set_option linter.unusedVariables false

def stepT (x : Array Value × RS) (o : Nat) : Array Value × RS := (x.1.setIfInBounds o (.string (Str (textP x.2).1)), (textP x.2).2)
def stepN (x : Array Value × RS) (o : Nat) : Array Value × RS := (x.1.setIfInBounds o (.int .i64 ((numP 4 x.2).1 : Nat)), (numP 4 x.2).2)
def readTs (os : List Nat) (x : Array Value × RS) : Array Value × RS := os.foldl stepT x
def readNs (os : List Nat) (x : Array Value × RS) : Array Value × RS := os.foldl stepN x
theorem readTs_take (os : List Nat) (x : Array Value × RS) (k : Nat) (h : k < os.length) : readTs (os.take (k + 1)) x = stepT (readTs (os.take k) x) os[k] := by
  unfold readTs; rw [List.take_add_one, List.getElem?_eq_getElem h, List.foldl_append]; rfl
theorem readNs_take (os : List Nat) (x : Array Value × RS) (k : Nat) (h : k < os.length) : readNs (os.take (k + 1)) x = stepN (readNs (os.take k) x) os[k] := by
  unfold readNs; rw [List.take_add_one, List.getElem?_eq_getElem h, List.foldl_append]; rfl
theorem readTs_size (os : List Nat) (x : Array Value × RS) : (readTs os x).1.size = x.1.size := by
  unfold readTs
  induction os generalizing x with
  | nil => rfl
  | cons o os ih => rw [List.foldl_cons, ih]; simp [stepT]
theorem readNs_size (os : List Nat) (x : Array Value × RS) : (readNs os x).1.size = x.1.size := by
  unfold readNs
  induction os generalizing x with
  | nil => rfl
  | cons o os ih => rw [List.foldl_cons, ih]; simp [stepN]
/-- The message that is read, behind its kind, and what is left. -/
def restM (k : Int) (s : RS) : Ms × RS :=
  let a := textP s
  let b := textP a.2
  let n := numP 4 b.2
  if k = 1 then ({ zeroM k with key := a.1, val := b.1, n := (n.1 : Nat) }, n.2)
  else if k = 2 then ({ zeroM k with key := a.1 }, a.2)
  else if k = 3 then ({ zeroM k with lo := a.1, hi := b.1 }, b.2)
  else if k = 4 then ({ zeroM k with src := a.1, dst := b.1 }, b.2)
  else if k = 5 then ({ zeroM k with src := a.1, dst := b.1 }, b.2)
  else if k = 6 then ({ zeroM k with lo := a.1, hi := b.1, n := (n.1 : Nat) }, n.2)
  else (zeroM k, s)
theorem read_all (k : Int) (s : RS) : readNs (nOff k) (readTs (tOff k) (encM (zeroM k), s)) = (encM (restM k s).1, (restM k s).2) := by
  unfold tOff nOff restM
  by_cases h1 : k = 1
  · subst h1; simp [readTs, readNs, stepT, stepN, zeroM]
  by_cases h2 : k = 2
  · subst h2; simp [readTs, readNs, stepT, zeroM]
  by_cases h3 : k = 3
  · subst h3; simp [readTs, readNs, stepT, zeroM]
  by_cases h4 : k = 4
  · subst h4; simp [readTs, readNs, stepT, zeroM]
  by_cases h5 : k = 5
  · subst h5; simp [readTs, readNs, stepT, zeroM]
  by_cases h6 : k = 6
  · subst h6; simp [readTs, readNs, stepT, stepN, zeroM]
  simp [h1, h2, h3, h4, h5, h6, readTs, readNs]
theorem takeP_rest (k : Nat) (s : RS) : (takeP k s).2.1.length ≤ s.1.length := by
  unfold takeP; split
  · exact Nat.le_refl _
  · simp only [List.length_drop]; omega
theorem numP_len (k : Nat) (s : RS) : (numP k s).2.1.length ≤ s.1.length := takeP_rest k s
theorem textP_len (s : RS) : (textP s).2.1.length ≤ s.1.length := Nat.le_trans (takeP_rest _ _) (numP_len 2 s)
theorem restM_len (k : Int) (s : RS) : (restM k s).2.1.length ≤ s.1.length := by
  have h1 := textP_len s
  have h2 := textP_len (textP s).2
  have h3 := numP_len 4 (textP (textP s).2).2
  unfold restM
  simp only
  split
  · simp only; omega
  split
  · simp only; omega
  split
  · simp only; omega
  split
  · simp only; omega
  split
  · simp only; omega
  split
  · simp only; omega
  exact Nat.le_refl _
/-- The message at the beginning of bytes, and their number. -/
def parseS (b : Bs) : Option (Ms × Nat) :=
  let x := restM ((numP 1 (b, false)).1 : Nat) (numP 1 (b, false)).2
  if x.2.2 = true ∨ validM x.1 = false then none else some (x.1, b.length - x.2.1.length)
def parseV (b : Bs) : Value := match parseS b with
  | some (m, n) => .tuple #[msgV m, .int .i64 n, .int .i64 0]
  | none => .tuple #[msgV (zeroM 0), .int .i64 0, .int .i64 3]

theorem Rd.keep {w w' : World} {rb : Nat} {s : RS} (h : Rd w rb s) (hb : Below w.heap.size w w') : Rd w' rb s := by
  obtain ⟨p, n, c, h1, h2⟩ := h
  exact ⟨p, n, c, h1.below hb h1.lt, h2.below hb⟩
theorem Rd.setCell {w : World} {rb b : Nat} {s : RS} {T : TypeId} {cs : Array Value} (h : Rd w rb s) (hb : Blk w b T cs) (hT : ∀ x ∈ cs, ∀ n : Nat, x ≠ .int .u8 n) (hne : rb ≠ b) (o : Nat) (x : Value) : Rd (w.setCell ⟨b, o, none⟩ x) rb s := by
  obtain ⟨p, n, c, h1, h2⟩ := h
  refine ⟨p, n, c, h1.setCell_other hne o x, ?_⟩
  obtain ⟨a, cap, e1, e2, e3, e4⟩ := h2
  refine ⟨a, cap, e1, e2, e3, fun hl => ?_⟩
  obtain ⟨g, off, e, hlt, hc⟩ := e4 hl
  have hg : g ≠ b := by
    rintro rfl
    have h0 := hc 0 (List.length_pos_iff.2 hl)
    rw [hb.cell] at h0
    exact hT _ (Array.mem_of_getElem? h0) _ rfl
  refine ⟨g, off, e, by simpa using hlt, fun i hi => ?_⟩
  have := hc i hi
  unfold World.cell? at this ⊢
  simp only at this ⊢
  rw [Below.heap_setCell _ _ _ _ hg]; exact this

/-- No cell of a message is a byte. -/
def NoU8 (cs : Array Value) : Prop := ∀ x ∈ cs, ∀ n : Nat, x ≠ .int .u8 n
theorem noU8_enc (m : Ms) : NoU8 (encM m) := by
  intro x hx n
  simp at hx
  rcases hx with rfl | rfl | rfl | rfl | rfl | rfl | rfl | rfl <;> simp
theorem NoU8.set {cs : Array Value} (h : NoU8 cs) (o : Nat) {v : Value} (hv : ∀ n : Nat, v ≠ .int .u8 n) : NoU8 (cs.setIfInBounds o v) := by
  intro x hx n
  rcases Array.mem_or_eq_of_mem_setIfInBounds hx with h1 | rfl
  · exact h x h1 n
  · exact hv n

/-- What stays while a message is read. -/
structure PSt (w : World) (v1 v2 : Value) (ts ns : List Nat) (x : Array Value × RS) (wx : World) : Prop where
  r : Blk wx w.heap.size 46 (encM (zeroM 0))
  rd : Rd wx (w.heap.size + 1) x.2
  mb : Blk wx (w.heap.size + 2) 46 x.1
  nu : NoU8 x.1
  p1 : IsPtrs wx v1 (w.heap.size + 2) ts
  p2 : IsPtrs wx v2 (w.heap.size + 2) ns
  g : Below w.heap.size w wx
theorem PSt.read {w wx wy : World} {v1 v2 : Value} {ts ns : List Nat} {x : Array Value × RS} {s' : RS} (h : PSt w v1 v2 ts ns x wx) (hr : Rd wy (w.heap.size + 1) s') (ho : Only (w.heap.size + 1) wx wy) : PSt w v1 v2 ts ns (x.1, s') wy := by
  obtain ⟨p, n, c, hb, -⟩ := h.rd
  have hk : ∀ g T cs, g ≠ w.heap.size + 2 → (T ≠ 5 ∧ T ≠ 161) → Blk wx g T cs → Blk wy g T cs := fun g T cs _ hT hc => hc.only ho (by
    rintro rfl
    have := hc.symm.trans hb
    injection this with this
    injection this with _ e
    exact hT.2 e)
  exact ⟨h.r.only ho (by omega), hr, h.mb.only ho (by omega), h.nu, h.p1.keep hk, h.p2.keep hk, h.g.trans (ho.below (by omega))⟩
theorem PSt.set {w wx : World} {v1 v2 : Value} {ts ns : List Nat} {x : Array Value × RS} (h : PSt w v1 v2 ts ns x wx) (o : Nat) (v : Value) (hv : ∀ n : Nat, v ≠ .int .u8 n) : PSt w v1 v2 ts ns (x.1.setIfInBounds o v, x.2) (wx.setCell ⟨w.heap.size + 2, o, none⟩ v) :=
  ⟨h.r.setCell_other (by omega) o v, h.rd.setCell h.mb h.nu (by omega) o v, h.mb.setCell o v, h.nu.set o hv, h.p1.setCell o v, h.p2.setCell o v, h.g.setCell (show w.heap.size ≤ w.heap.size + 2 by omega) v⟩

/-- What stays while the result is laid. -/
structure FinSt (w : World) (m : Ms) (x : Value) (wx : World) : Prop where
  m : MBlk wx (w.heap.size + 2) m
  b : Blk wx w.heap.size 46 (encM (zeroM 0))
  r : wx.cell? ⟨w.heap.size + 1, 0, none⟩ = some x
  g : Below w.heap.size w wx
theorem FinSt.drew {w wx : World} {m : Ms} {x : Value} (h : FinSt w m x wx) : FinSt w m x wx.drew := ⟨h.m, h.b, h.r, h.g.trans (below_drewN _ 1)⟩

theorem PSt.cell {w wx : World} {v1 v2 : Value} {ts ns : List Nat} {x : Array Value × RS} (h : PSt w v1 v2 ts ns x wx) (o : Nat) (ho : o < x.1.size) : ∃ u, wx.cell? ⟨w.heap.size + 2, o, none⟩ = some u :=
  ⟨_, h.mb.c0 o _ (Array.getElem?_eq_getElem ho)⟩

set_option maxRecDepth 100000 in
set_option maxHeartbeats 8000000 in
theorem parse_w (v : Value) (l : Bs) (w : World) (h : IsBytes w v l) : Calls Tryz.prog 41 #[v] w fun e w' => e = .returned (parseV l) ∧ Below w.heap.size w w' := by
  obtain ⟨g0, off0, cap0, p0, rfl, hlc, hcm, -, -⟩ := h.form
  have HL := Lib.hid h
  unfold maxLen at hcm
  obtain ⟨W1, hW1⟩ : ∃ W1, W1 = (w.alloc (.cells (encM (zeroM 0)) 46)).alloc (.cells #[.slice p0 l.length cap0, .bool false] 161) := ⟨_, rfl⟩
  have hg1 : Below w.heap.size w W1 := by rw [hW1]; exact ((Below.refl _ _).alloc (Nat.le_refl _) _).alloc (by simp) _
  have hsz1 : W1.heap.size = w.heap.size + 2 := by rw [hW1]; simp
  have hr1 : Blk W1 w.heap.size 46 (encM (zeroM 0)) := by rw [hW1]; exact (Blk.new _ _ _).alloc _
  have hd1 : Rd W1 (w.heap.size + 1) (l, false) := ⟨p0, l.length, cap0, by rw [hW1]; exact Blk.new' _ _ _ (by simp), h.below hg1⟩
  have HN := Lib.hid (number_w (w.heap.size + 1) 1 (l, false) W1 hd1 (by omega))
  have HP : Hid (parseV l = match parseS l with
    | some (m, n) => .tuple #[msgV m, .int .i64 n, .int .i64 0]
    | none => .tuple #[msgV (zeroM 0), .int .i64 0, .int .i64 3]) := Lib.hid rfl
  have HS : Hid (parseS l = if (restM ((numP 1 (l, false)).1 : Nat) (numP 1 (l, false)).2).2.2 = true ∨ validM (restM ((numP 1 (l, false)).1 : Nat) (numP 1 (l, false)).2).1 = false then none
    else some ((restM ((numP 1 (l, false)).1 : Nat) (numP 1 (l, false)).2).1, l.length - (restM ((numP 1 (l, false)).1 : Nat) (numP 1 (l, false)).2).2.1.length)) := Lib.hid rfl
  have hs1l : (numP 1 (l, false)).2.1.length ≤ l.length := numP_len 1 (l, false)
  generalize numP 1 (l, false) = q at *
  obtain ⟨kn, s1⟩ := q
  simp only at HN HS hs1l
  have HR := Lib.hid (read_all (kn : Int) s1)
  have hxl : (restM (kn : Int) s1).2.1.length ≤ l.length := Nat.le_trans (restM_len _ _) hs1l
  generalize hx : restM (kn : Int) s1 = x at *
  have hm := disp_fields.m (kn : Int) (w.heap.size + 2)
  have hc := disp_fields.c (kn : Int)
  have hts := tOff_lt (kn : Int)
  have hns := nOff_lt (kn : Int)
  generalize parseV l = pv at *
  generalize parseS l = ps at *
  generalize htd : tOff (kn : Int) = ts at *
  generalize hnd : nOff (kn : Int) = ns at *
  have Htd := Lib.hid htd
  have Hnd := Lib.hid hnd
  have Hts := Lib.hid hts
  have Hns := Lib.hid hns
  have Hr1 := Lib.hid hr1
  have Hg1 := Lib.hid hg1
  have Hsz1 := Lib.hid hsz1
  clear h hg1 hsz1 hr1 hd1 hx hts hns htd hnd
  go_enter Tryz.func41, Tryz.ntmps41
  go_wp2_with fail
  subst hW1
  refine HN.out.mono ?_
  rintro e w2 ⟨rfl, hrd, ho⟩
  have hsz2 : w2.heap.size = w.heap.size + 2 := by rw [ho.size]; exact Hsz1.out
  have hbel2 : Below w.heap.size w w2 := Hg1.out.trans (ho.below (by omega))
  have hr2 := Hr1.out.only ho (by omega)
  obtain ⟨W3, hW3⟩ : ∃ W3, W3 = w2.alloc (.cells (encM (zeroM kn)) 46) := ⟨_, rfl⟩
  have hb3 : Below w2.heap.size w2 W3 := by rw [hW3]; exact below_box _
  have hmb3 : MBlk W3 (w.heap.size + 2) (zeroM kn) := by rw [hW3]; exact Blk.new' _ _ _ hsz2.symm
  have HPS : Hid (∀ v1 v2 wx, IsPtrs wx v1 (w.heap.size + 2) ts → IsPtrs wx v2 (w.heap.size + 2) ns → Grown W3 wx → PSt w v1 v2 ts ns (encM (zeroM kn), s1) wx) := Lib.hid (fun v1 v2 wx h1 h2 hg =>
    have hbx : Below w2.heap.size w2 wx := hb3.trans ((hg.below (Nat.le_refl _)).mono hb3.size)
    ⟨hr2.below hbx hr2.lt, hrd.keep hbx, Grown.blk hg hmb3, noU8_enc _, h1, h2, hbel2.trans (hbx.mono hbel2.size)⟩)
  have HO := Lib.hid (of_w (kn : Int) (w.heap.size + 2) W3 (hmb3.c0 0 _ rfl))
  have HF := Lib.hid (fieldsF_w (kn : Int) (w.heap.size + 2) W3 hmb3.lt)
  rw [Htd.out, Hnd.out] at HF
  clear hrd ho hbel2 hr2 hb3 hmb3 HN
  go_wp2_with fail
  subst hW3
  refine HO.out.mono ?_
  rintro e w4 ⟨rfl, rfl⟩
  go_wp2_with fail
  refine HF.out.mono ?_
  rintro e w5 ⟨v1, v2, rfl, q1, q2, hg5⟩
  have HP5 := Lib.hid (HPS.out v1 v2 w5 q1 q2 hg5)
  obtain ⟨a1, cap1, g1, rfl, l1, m1, hc1⟩ := q1.form
  obtain ⟨a2, cap2, g2, rfl, l2, m2, hc2⟩ := q2.form
  clear q1 q2 hg5 hc1 hc2 hm hc HO HF HPS hsz2
  go_wp2
  go_loopw [24] (fun i wr => ∃ k : Nat, k ≤ ts.length ∧ i = .int .i64 k ∧ PSt w (.slice a1 ts.length cap1) (.slice a2 ns.length cap2) ts ns (readTs (ts.take k) (encM (zeroM kn), s1)) wr) (fun i _ => ts.length - (intOf i).toNat)
  case atStart => exact ⟨0, Nat.zero_le _, rfl, HP5.out⟩
  case round =>
    clear HP5
    obtain ⟨k, hk, rfl, hs⟩ := hrel
    have HS0 := Lib.hid hs
    by_cases hlt : k < ts.length
    · obtain ⟨p, cap, g, hv, -, -, hcc⟩ := hs.p1.form
      obtain ⟨rfl, hne, hgl, c0⟩ := hcc k hlt
      injection hv with hv1 hv2 hv3
      subst hv1
      clear hv2 hv3 hcc
      have hltz : (k : Int) < (ts.length : Int) := by omega
      have Htk := Lib.hid (readTs_take ts (encM (zeroM kn), s1) k hlt)
      have ho8 := Hts.out ts[k] (List.getElem_mem hlt)
      have hsize : (readTs (ts.take k) (encM (zeroM kn), s1)).1.size = 8 := readTs_size _ _
      obtain ⟨xs, hxs⟩ : ∃ xs, xs = readTs (ts.take k) (encM (zeroM kn), s1) := ⟨_, rfl⟩
      rw [← hxs] at hs HS0 hsize
      have Hxs := Lib.hid hxs
      have HT := Lib.hid (text_w (w.heap.size + 1) xs.2 wr hs.rd)
      have HR6 : Hid (∀ wx, Rd wx (w.heap.size + 1) (textP xs.2).2 → Only (w.heap.size + 1) wr wx → PSt w (.slice (some ⟨g, 0, none⟩) ts.length cap1) (.slice a2 ns.length cap2) ts ns (xs.1, (textP xs.2).2) wx) := Lib.hid (fun wx h1 h2 => hs.read h1 h2)
      clear hs hxs
      generalize ts[k] = o at *
      go_wp2_with fail
      refine HT.out.mono ?_
      rintro e w6 ⟨rfl, hr6, ho6⟩
      have HS6 := Lib.hid (HR6.out w6 hr6 ho6)
      obtain ⟨u, hu⟩ := HS6.out.cell o (by rw [hsize]; exact ho8)
      have hfr := HS6.out.mb.free o
      have HS7 := Lib.hid (HS6.out.set o (.string (Str (textP xs.2).1)) (fun n h => by cases h))
      clear hr6 ho6 HT HR6 hsize ho8
      go_wp2
      go_roundw
      case rel => exact ⟨k + 1, by omega, by go_num, by rw [Htk.out, ← Hxs.out]; exact HS7.out⟩
      case measure => simp [intOf]; omega
    · obtain rfl : k = ts.length := by omega
      rw [List.take_length] at HS0
      clear hs
      go_wp2
      go_loopw [34] (fun i wr => ∃ k : Nat, k ≤ ns.length ∧ i = .int .i64 k ∧ PSt w (.slice a1 ts.length cap1) (.slice a2 ns.length cap2) ts ns (readNs (ns.take k) (readTs ts (encM (zeroM kn), s1))) wr) (fun i _ => ns.length - (intOf i).toNat)
      case atStart => exact ⟨0, Nat.zero_le _, rfl, HS0.out⟩
      case round =>
        clear HS0
        obtain ⟨k, hk, rfl, hs⟩ := hrel
        have HS0 := Lib.hid hs
        by_cases hlt : k < ns.length
        · obtain ⟨p, cap, g, hv, -, -, hcc⟩ := hs.p2.form
          obtain ⟨rfl, hne, hgl, c0⟩ := hcc k hlt
          injection hv with hv1 hv2 hv3
          subst hv1
          clear hv2 hv3 hcc
          have hltz : (k : Int) < (ns.length : Int) := by omega
          have Htk := Lib.hid (readNs_take ns (readTs ts (encM (zeroM kn), s1)) k hlt)
          have ho8 := Hns.out ns[k] (List.getElem_mem hlt)
          have hsize : (readNs (ns.take k) (readTs ts (encM (zeroM kn), s1))).1.size = 8 := (readNs_size _ _).trans (readTs_size _ _)
          obtain ⟨xs, hxs⟩ : ∃ xs, xs = readNs (ns.take k) (readTs ts (encM (zeroM kn), s1)) := ⟨_, rfl⟩
          rw [← hxs] at hs HS0 hsize
          have Hxs := Lib.hid hxs
          have HT := Lib.hid (number_w (w.heap.size + 1) 4 xs.2 wr hs.rd (by omega))
          have HR6 : Hid (∀ wx, Rd wx (w.heap.size + 1) (numP 4 xs.2).2 → Only (w.heap.size + 1) wr wx → PSt w (.slice a1 ts.length cap1) (.slice (some ⟨g, 0, none⟩) ns.length cap2) ts ns (xs.1, (numP 4 xs.2).2) wx) := Lib.hid (fun wx h1 h2 => hs.read h1 h2)
          clear hs hxs
          generalize ns[k] = o at *
          go_wp2_with fail
          refine HT.out.mono ?_
          rintro e w6 ⟨rfl, hr6, ho6⟩
          have HS6 := Lib.hid (HR6.out w6 hr6 ho6)
          obtain ⟨u, hu⟩ := HS6.out.cell o (by rw [hsize]; exact ho8)
          have hfr := HS6.out.mb.free o
          have HS7 := Lib.hid (HS6.out.set o (.int .i64 ((numP 4 xs.2).1 : Nat)) (fun n h => by cases h))
          clear hr6 ho6 HT HR6 hsize ho8
          go_wp2
          go_roundw
          case rel => exact ⟨k + 1, by omega, by go_num, by rw [Htk.out, ← Hxs.out]; exact HS7.out⟩
          case measure => simp [intOf]; omega
        · obtain rfl : k = ns.length := by omega
          rw [List.take_length, HR.out] at HS0
          clear hs HR
          obtain ⟨xm, xl, xb⟩ := x
          simp only at HS HS0
          obtain ⟨pp, pn, pc, hrb, hrl⟩ := HS0.out.rd
          obtain ⟨pa, pcap, hpe, hlc2, hcm2, -⟩ := id hrl
          cases hpe
          unfold maxLen at hcm2
          have r0 : wr.cell? ⟨w.heap.size + 1, 0, none⟩ = some (.slice pp xl.length pc) := hrb.c0 0 _ rfl
          have r1 : wr.cell? ⟨w.heap.size + 1, 1, none⟩ = some (.bool xb) := hrb.c0 1 _ rfl
          obtain ⟨c0, c1, c2, c3, c4, c5, c6, c7⟩ := MBlk.plain HS0.out.mb
          obtain ⟨d0, d1, d2, d3, d4, d5, d6, d7⟩ := MBlk.plain HS0.out.r
          have f0 := HS0.out.r.free 0
          have f1 := HS0.out.r.free 1
          have f2 := HS0.out.r.free 2
          have f3 := HS0.out.r.free 3
          have f4 := HS0.out.r.free 4
          have f5 := HS0.out.r.free 5
          have f6 := HS0.out.r.free 6
          have f7 := HS0.out.r.free 7
          have HV := Lib.hid (fun wx => valid_w xm wx)
          clear hrb hrl Hr1 Hg1 Hsz1 Htd Hnd Hts Hns l1 m1 l2 m2
          have Hxl := Lib.hid hxl
          cases xb with
          | true =>
            have H : Hid (pv = .tuple #[msgV (zeroM 0), .int .i64 0, .int .i64 3]) := Lib.hid (by rw [HP.out, HS.out]; simp)
            clear HS HP
            go_wp2
            refine bodyPost_ret (v := .tuple #[.agg #[.int .i64 0, .string ⟨#[]⟩, .string ⟨#[]⟩, .string ⟨#[]⟩, .string ⟨#[]⟩, .string ⟨#[]⟩, .string ⟨#[]⟩, .int .i64 0], .int .i64 0, .int .i64 3]) (by simp [results, Tryz.results41, go_sem, d0, d1, d2, d3, d4, d5, d6, d7]) rfl ⟨by rw [H.out]; rfl, ?_⟩
            exact ((((((((HS0.out.g.setCell (Nat.le_refl _) _).setCell (Nat.le_refl _) _).setCell (Nat.le_refl _) _).setCell (Nat.le_refl _) _).setCell (Nat.le_refl _) _).setCell (Nat.le_refl _) _).setCell (Nat.le_refl _) _).setCell (Nat.le_refl _) _)
          | false =>
            cases hvm : validM xm with
            | false =>
              rw [hvm] at HV
              have H : Hid (pv = .tuple #[msgV (zeroM 0), .int .i64 0, .int .i64 3]) := Lib.hid (by rw [HP.out, HS.out, hvm]; simp)
              clear HS HP hvm
              go_wp2_with fail
              refine (HV.out _).mono ?_
              rintro e w7 ⟨rfl, hg⟩
              have hr7 := Grown.blk hg HS0.out.r
              obtain ⟨d0, d1, d2, d3, d4, d5, d6, d7⟩ := MBlk.plain hr7
              have f0 := hr7.free 0
              have f1 := hr7.free 1
              have f2 := hr7.free 2
              have f3 := hr7.free 3
              have f4 := hr7.free 4
              have f5 := hr7.free 5
              have f6 := hr7.free 6
              have f7 := hr7.free 7
              have HG : Hid (Below w.heap.size w w7) := Lib.hid (HS0.out.g.trans (hg.below HS0.out.g.size))
              clear hg hr7 c0 c1 c2 c3 c4 c5 c6 c7 r0 r1
              go_wp2
              refine bodyPost_ret (v := .tuple #[.agg #[.int .i64 0, .string ⟨#[]⟩, .string ⟨#[]⟩, .string ⟨#[]⟩, .string ⟨#[]⟩, .string ⟨#[]⟩, .string ⟨#[]⟩, .int .i64 0], .int .i64 0, .int .i64 3]) (by simp [results, Tryz.results41, go_sem, d0, d1, d2, d3, d4, d5, d6, d7]) rfl ⟨by rw [H.out]; rfl, ?_⟩
              exact ((((((((HG.out.setCell (Nat.le_refl _) _).setCell (Nat.le_refl _) _).setCell (Nat.le_refl _) _).setCell (Nat.le_refl _) _).setCell (Nat.le_refl _) _).setCell (Nat.le_refl _) _).setCell (Nat.le_refl _) _).setCell (Nat.le_refl _) _)
            | true =>
              rw [hvm] at HV
              have H : Hid (pv = .tuple #[msgV xm, .int .i64 ((l.length : Int) - xl.length), .int .i64 0]) := Lib.hid (by
                rw [HP.out, HS.out, if_neg (by rw [hvm]; simp)]
                have e : ((l.length - xl.length : Nat) : Int) = (l.length : Int) - xl.length := Int.ofNat_sub Hxl.out
                rw [← e])
              clear HS HP hvm
              go_wp2_with fail
              refine (HV.out _).mono ?_
              rintro e w7 ⟨rfl, hg⟩
              have hr7 := Grown.blk hg HS0.out.r
              have hm7 := Grown.blk hg HS0.out.mb
              obtain ⟨pp, pn, pc, hrb, hrl⟩ := HS0.out.rd.keep (hg.below (Nat.le_refl _))
              obtain ⟨pa, pcap, hpe, hlc2, hcm2, -⟩ := id hrl
              cases hpe
              unfold maxLen at hcm2
              have r0 : w7.cell? ⟨w.heap.size + 1, 0, none⟩ = some (.slice pp xl.length pc) := hrb.c0 0 _ rfl
              obtain ⟨c0, c1, c2, c3, c4, c5, c6, c7⟩ := MBlk.plain hm7
              obtain ⟨d0, d1, d2, d3, d4, d5, d6, d7⟩ := MBlk.plain hr7
              have f0 := hr7.free 0
              have f1 := hr7.free 1
              have f2 := hr7.free 2
              have f3 := hr7.free 3
              have f4 := hr7.free 4
              have f5 := hr7.free 5
              have f6 := hr7.free 6
              have f7 := hr7.free 7
              have HG : Hid (Below w.heap.size w w7) := Lib.hid (HS0.out.g.trans (hg.below HS0.out.g.size))
              have hxz : (xl.length : Int) ≤ (l.length : Int) := by have := Hxl.out; omega
              have hwr : IntKind.i64.wrap ((l.length : Int) - xl.length) = (l.length : Int) - xl.length := by rw [IntKind.wrap_i64]; omega
              clear hg hr7 hm7 hrb hrl HS0 HV HL
              go_wp2_with fail
              go_region
              all_goals go_wp2
              all_goals
                refine bodyPost_ret (v := .tuple #[msgV xm, .int .i64 ((l.length : Int) - xl.length), .int .i64 0]) (by simp [results, Tryz.results41, go_sem, d0, d1, d2, d3, d4, d5, d6, d7]) rfl ⟨by rw [H.out], ?_⟩
                exact Below.trans ((((((((HG.out.setCell (Nat.le_refl _) _).setCell (Nat.le_refl _) _).setCell (Nat.le_refl _) _).setCell (Nat.le_refl _) _).setCell (Nat.le_refl _) _).setCell (Nat.le_refl _) _).setCell (Nat.le_refl _) _).setCell (Nat.le_refl _) _) (below_drewN _ 1)

end Go.Proofs.YtmbfghbhajmpiaaGreat

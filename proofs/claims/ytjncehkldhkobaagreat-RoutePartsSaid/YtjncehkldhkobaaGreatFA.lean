/-
  Walks: Covers, the ends of lists of spans and their sorting, Minus and Norm of package span.
-/
import Derived.Test.YtjncehkldhkobaaGreatFR
import Derived.Test.YtjncehkldhkobaaGreatSh2
import Derived.OwnWalk
namespace Go.Proofs.YtjncehkldhkobaaGreat
open Go.RowKit Go.Sort
set_option linter.unusedVariables false
set_option maxRecDepth 100000 in
set_option maxHeartbeats 4000000 in
theorem covers_w (a b : Sp) (w : World) : Calls Tryz.prog 80 #[strS a, strS b] w fun e w' => e = .returned (.bool (coversB a b)) ∧ Grown w w' := by
  obtain ⟨al, ah⟩ := a
  obtain ⟨bl, bh⟩ := b
  simp only [strS]
  have hc1 := fun wx => compare_w (al, false, 1, 0) (bl, false, 1, 0) wx
  have hk1 := cmp_low al bl 1 0 1 0
  have hc2 := fun wx => compare_w (ah, ah.isEmpty, -1, 0) (bh, bh.isEmpty, -1, 0) wx
  have hk2 := cmp_high ah bh (-1) 0 (-1) 0
  have hla := fun wx => low_w al ah wx
  have hlb := fun wx => low_w bl bh wx
  have hha := fun wx => high_w al ah wx
  have hhb := fun wx => high_w bl bh wx
  have he := fun wx => empty_w bl bh wx
  have H : Hid (coversB (al, ah) (bl, bh) = (emptyB (bl, bh) || (!ltP (keyP bl) (keyP al) && !ltP (hiP ah) (hiP bh)))) := rfl
  rw [← hk1, ← hk2] at H
  clear hk1 hk2
  simp only [encE] at hc1 hc2
  generalize cmpE (al, false, 1, 0) (bl, false, 1, 0) = r1 at *
  generalize cmpE (ah, ah.isEmpty, -1, 0) (bh, bh.isEmpty, -1, 0) = r2 at *
  generalize emptyB (bl, bh) = em at *
  generalize bh.isEmpty = tb at *
  generalize ah.isEmpty = ta at *
  have mixed := mixedA
  have S0 : Blk ((w.alloc (.cells #[.string (Str al), .string (Str ah)] 38)).alloc (.cells #[.string (Str bl), .string (Str bh)] 38)) w.heap.size 38 #[.string (Str al), .string (Str ah)] := (Blk.new _ _ _).alloc _
  have S1 : Blk ((w.alloc (.cells #[.string (Str al), .string (Str ah)] 38)).alloc (.cells #[.string (Str bl), .string (Str bh)] 38)) (w.heap.size + 1) 38 #[.string (Str bl), .string (Str bh)] := Blk.new' _ _ _ (by simp)
  have a0 := S0.c 0 _ rfl
  have a1 := S0.c 1 _ rfl
  have b0 := S1.c 0 _ rfl
  have b1 := S1.c 1 _ rfl
  have HG : Hid (Grown w ((w.alloc (.cells #[.string (Str al), .string (Str ah)] 38)).alloc (.cells #[.string (Str bl), .string (Str bh)] 38))) := Lib.hid (((Grown.refl w).alloc _).alloc _)
  clear S0 S1
  cases em with
  | true =>
    clear hc1 hc2 hla hlb hha hhb
    go_enter Tryz.func80, Tryz.ntmps80
    go_wp2_with fail
    refine wp_region_quiet_grown mixed (by kernel_rfl) ?_
    repeat (first | go_big_quiet_skip | (refine wpQuiet_step (fun K hK => ?_); have HK := Lib.hid hK; clear hK; go_simp; first | (refine HK.out _ ?_; clear HK K) | (apply Exists.intro; refine ⟨fun _ => ?_, HK.out _ ?_⟩; (first | (go_at_call 55; refine calls_grown (he _))); clear HK K)))
    refine wpQuiet_nil ?_
    intro _ hw'
    obtain ⟨⟨nq, osq⟩, hw''⟩ := hw'
    subst hw''
    go_wp2
    go_ret
    exact ⟨ret_bool (by rw [H.out]; rfl), HG.out.trans ⟨_, _, rfl⟩⟩
  | false =>
    by_cases h1 : r1 ≤ 0
    · by_cases h2 : 0 ≤ r2
      · have d1 : decide (0 < r1) = false := by simp; omega
        have d2 : decide (r2 < 0) = false := by simp; omega
        rw [d1, d2] at H
        clear d1 d2
        go_enter Tryz.func80, Tryz.ntmps80
        go_wp2_with fail
        refine wp_region_quiet_grown mixed (by kernel_rfl) ?_
        repeat (first | go_big_quiet_skip | (refine wpQuiet_step (fun K hK => ?_); have HK := Lib.hid hK; clear hK; go_simp; first | (refine HK.out _ ?_; clear HK K) | (apply Exists.intro; refine ⟨fun _ => ?_, HK.out _ ?_⟩; (first | (go_at_call 55; refine calls_grown (he _)) | (go_at_call_of 85 (Value.string (Str bl)); refine calls_grown (hlb _)) | (go_at_call 85; refine calls_grown (hla _)) | (go_at_call_of 83 (Value.string (Str bl)); refine calls_grown (hhb _)) | (go_at_call 83; refine calls_grown (hha _)) | (go_at_call_of 84 (Value.int IntKind.i64 1); refine calls_grown (hc1 _)) | (go_at_call 84; refine calls_grown (hc2 _))); clear HK K)))
        refine wpQuiet_nil ?_
        intro _ hw'
        obtain ⟨⟨nq, osq⟩, hw''⟩ := hw'
        subst hw''
        go_wp2
        go_ret
        exact ⟨ret_bool (by rw [H.out]; rfl), HG.out.trans ⟨_, _, rfl⟩⟩
      · have d1 : decide (0 < r1) = false := by simp; omega
        have d2 : decide (r2 < 0) = true := by simp; omega
        rw [d1, d2] at H
        have d3 : decide (0 ≤ r2) = false := by simp; omega
        clear d1 d2
        go_enter Tryz.func80, Tryz.ntmps80
        go_wp2_with fail
        refine wp_region_quiet_grown mixed (by kernel_rfl) ?_
        repeat (first | go_big_quiet_skip | (refine wpQuiet_step (fun K hK => ?_); have HK := Lib.hid hK; clear hK; go_simp; first | (refine HK.out _ ?_; clear HK K) | (apply Exists.intro; refine ⟨fun _ => ?_, HK.out _ ?_⟩; (first | (go_at_call 55; refine calls_grown (he _)) | (go_at_call_of 85 (Value.string (Str bl)); refine calls_grown (hlb _)) | (go_at_call 85; refine calls_grown (hla _)) | (go_at_call_of 83 (Value.string (Str bl)); refine calls_grown (hhb _)) | (go_at_call 83; refine calls_grown (hha _)) | (go_at_call_of 84 (Value.int IntKind.i64 1); refine calls_grown (hc1 _)) | (go_at_call 84; refine calls_grown (hc2 _))); clear HK K)))
        refine wpQuiet_nil ?_
        intro _ hw'
        obtain ⟨⟨nq, osq⟩, hw''⟩ := hw'
        subst hw''
        go_wp2
        go_ret
        exact ⟨ret_bool (by rw [H.out]; first | rfl | (simp; omega)), HG.out.trans ⟨_, _, rfl⟩⟩
    · have d1 : decide (0 < r1) = true := by simp; omega
      rw [d1] at H
      have d3 : decide (r1 ≤ 0) = false := by simp; omega
      clear d1 hc2 hha hhb
      go_enter Tryz.func80, Tryz.ntmps80
      go_wp2_with fail
      refine wp_region_quiet_grown mixed (by kernel_rfl) ?_
      repeat (first | go_big_quiet_skip | (refine wpQuiet_step (fun K hK => ?_); have HK := Lib.hid hK; clear hK; go_simp; first | (refine HK.out _ ?_; clear HK K) | (apply Exists.intro; refine ⟨fun _ => ?_, HK.out _ ?_⟩; (first | (go_at_call 55; refine calls_grown (he _)) | (go_at_call_of 85 (Value.string (Str bl)); refine calls_grown (hlb _)) | (go_at_call 85; refine calls_grown (hla _)) | (go_at_call_of 84 (Value.int IntKind.i64 1); refine calls_grown (hc1 _))); clear HK K)))
      refine wpQuiet_nil ?_
      intro _ hw'
      obtain ⟨⟨nq, osq⟩, hw''⟩ := hw'
      subst hw''
      go_wp2
      go_ret
      exact ⟨ret_bool (by rw [H.out]; first | rfl | (simp; omega)), HG.out.trans ⟨_, _, rfl⟩⟩
theorem infoE : (Tryz.prog.info? 103).map (fun i => (i.zero, i.size, i.bytes)) = some (some (.agg #[.string ⟨#[]⟩, .bool false, .int .i64 0, .int .i64 0]), 4, 40) := by kernel_rfl
theorem infoStr : (Tryz.prog.info? 9).map (fun i => (i.zero, i.size, i.bytes)) = some (some (.string ⟨#[]⟩), 1, 16) := by kernel_rfl
/-- The ends of one span of list i. -/
def endsOf (i : Int) (s : Sp) : List Ev := if emptyB s then [] else [(s.1, false, 1, i), (s.2, s.2.isEmpty, -1, i)]
theorem evs_snoc (i : Int) (l : List Sp) (s : Sp) : evs i (l ++ [s]) = evs i l ++ endsOf i s := by
  rw [evs_append]; unfold evs endsOf; simp
theorem evs_take (i : Int) (l : List Sp) (k : Nat) (h : k < l.length) : evs i (l.take (k + 1)) = evs i (l.take k) ++ endsOf i l[k] := by
  rw [List.take_add_one, List.getElem?_eq_getElem h]; exact evs_snoc i _ _
/-- Both ends of a span, made and kept apart. -/
structure TwoEnds (B : Nat) (w wx : World) (x y : Nat) (c d : Array Value) : Prop where
  one : Blk wx x 103 c
  two : Blk wx y 103 d
  ne : x ≠ y
  lo : B ≤ x
  hi : B ≤ y
  bel : Below B w wx
theorem TwoEnds.new1 {B : Nat} {w W : World} {c d : Array Value} (h : Below B w W) (hB : B ≤ W.heap.size) : TwoEnds B w ((W.alloc (.cells c 103)).alloc (.cells d 103)) W.heap.size (W.heap.size + 1) c d :=
  ⟨(Blk.new _ _ _).alloc _, Blk.new' _ _ _ (by simp), by omega, hB, by omega, (h.alloc hB _).alloc (by simp; omega) _⟩
theorem TwoEnds.new2 {B : Nat} {w W : World} {c d : Array Value} (h : Below B w W) (hB : B ≤ W.heap.size) : TwoEnds B w ((W.alloc (.cells d 103)).alloc (.cells c 103)) (W.heap.size + 1) W.heap.size c d :=
  ⟨Blk.new' _ _ _ (by simp), (Blk.new _ _ _).alloc _, by omega, by omega, hB, (h.alloc hB _).alloc (by simp; omega) _⟩
theorem TwoEnds.mix1 {B : Nat} {w W : World} {x : Nat} {z0 z1 z2 z3 c0 c1 c2 c3 : Value} {d : Array Value} (h : Below B w W) (hB : B ≤ W.heap.size) (hx : Blk W x 103 #[z0, z1, z2, z3]) (hBx : B ≤ x) :
    TwoEnds B w (((((W.setCell ⟨x, 0, none⟩ c0).setCell ⟨x, 1, none⟩ c1).setCell ⟨x, 2, none⟩ c2).setCell ⟨x, 3, none⟩ c3).alloc (.cells d 103)) x W.heap.size #[c0, c1, c2, c3] d :=
  ⟨(hx.set4 c0 c1 c2 c3).alloc _, Blk.new' _ _ _ (by simp), Nat.ne_of_lt hx.lt, hBx, hB, (below4 h x hBx c0 c1 c2 c3).alloc (by simp; omega) _⟩
theorem TwoEnds.mix2 {B : Nat} {w W : World} {y : Nat} {z0 z1 z2 z3 d0 d1 d2 d3 : Value} {c : Array Value} (h : Below B w W) (hB : B ≤ W.heap.size) (hy : Blk W y 103 #[z0, z1, z2, z3]) (hBy : B ≤ y) :
    TwoEnds B w (((((W.setCell ⟨y, 0, none⟩ d0).setCell ⟨y, 1, none⟩ d1).setCell ⟨y, 2, none⟩ d2).setCell ⟨y, 3, none⟩ d3).alloc (.cells c 103)) W.heap.size y c #[d0, d1, d2, d3] :=
  ⟨Blk.new' _ _ _ (by simp), (hy.set4 d0 d1 d2 d3).alloc _, Nat.ne_of_gt hy.lt, hB, hBy, (below4 h y hBy d0 d1 d2 d3).alloc (by simp; omega) _⟩
theorem TwoEnds.old {B : Nat} {w W : World} {x y : Nat} {z0 z1 z2 z3 y0 y1 y2 y3 c0 c1 c2 c3 d0 d1 d2 d3 : Value} (h : Below B w W) (hx : Blk W x 103 #[z0, z1, z2, z3]) (hy : Blk W y 103 #[y0, y1, y2, y3]) (hne : x ≠ y) (hBx : B ≤ x) (hBy : B ≤ y) :
    TwoEnds B w ((((((((W.setCell ⟨x, 0, none⟩ c0).setCell ⟨x, 1, none⟩ c1).setCell ⟨x, 2, none⟩ c2).setCell ⟨x, 3, none⟩ c3).setCell ⟨y, 0, none⟩ d0).setCell ⟨y, 1, none⟩ d1).setCell ⟨y, 2, none⟩ d2).setCell ⟨y, 3, none⟩ d3) x y #[c0, c1, c2, c3] #[d0, d1, d2, d3] :=
  ⟨(hx.set4 c0 c1 c2 c3).other4 hne d0 d1 d2 d3, (hy.other4 (Ne.symm hne) c0 c1 c2 c3).set4 d0 d1 d2 d3, hne, hBx, hBy, below4 (below4 h x hBx c0 c1 c2 c3) y hBy d0 d1 d2 d3⟩
/-- The ends of the first lists. -/
def accE (l m : List Sp) (k : Nat) : List Ev := (if 0 < k then evs 0 l else []) ++ (if 1 < k then evs 1 m else [])
theorem accE_step {w : World} {v0 v1 : Value} {l m : List Sp} {b : Nat} (h0 : IsSpans w v0 l) (h1 : IsSpans w v1 m) (hb0 : w.cell? ⟨b, 0, none⟩ = some v0) (hb1 : w.cell? ⟨b, 1, none⟩ = some v1)
    (hl : l.length ≤ 1000) (hm : m.length ≤ 1000) (k : Nat) (hk : k < 2) : ∃ v L, IsSpans w v L ∧ w.cell? ⟨b, k, none⟩ = some v ∧ L.length ≤ 1000 ∧ accE l m (k + 1) = accE l m k ++ evs k L ∧ (accE l m k).length ≤ 2000 := by
  have e := evs_length 0 l
  match k, hk with
  | 0, _ => exact ⟨v0, l, h0, hb0, hl, by simp [accE], by simp [accE]⟩
  | 1, _ => exact ⟨v1, m, h1, hb1, hm, by simp [accE], by simp [accE]; omega⟩
theorem swoE : Go.Sort.SWO (Go.Proofs.ltOf cmpE) where
  irrefl := ltE_irrefl
  trans := ltE_trans
  ntrans := ltE_ntrans
theorem flatE_len (l : List Ev) : (l.flatMap encE).length = l.length * 4 := by
  induction l with
  | nil => rfl
  | cons s l ih =>
    have e : (s :: l).flatMap encE = encE s ++ l.flatMap encE := rfl
    rw [e, List.length_append, ih]; simp [encE]; omega
theorem flatE_get (l : List Ev) (t : Nat) (h : t < l.length * 4) : (l.flatMap encE)[t]? = some ((encE l[t / 4]!)[t % 4]!) := by
  induction l generalizing t with
  | nil => simp at h
  | cons s l ih =>
    have e : (s :: l).flatMap encE = .string (Str s.1) :: .bool s.2.1 :: .int .i64 s.2.2.1 :: .int .i64 s.2.2.2 :: l.flatMap encE := rfl
    rw [e]
    by_cases h4 : t < 4
    · have h0 : t / 4 = 0 := by omega
      rw [h0]
      match t, h4 with
      | 0, _ => rfl
      | 1, _ => rfl
      | 2, _ => rfl
      | 3, _ => rfl
    · obtain ⟨u, rfl⟩ : ∃ u, t = u + 4 := ⟨t - 4, by omega⟩
      have h1 : (u + 4) / 4 = u / 4 + 1 := by omega
      have h2 : (u + 4) % 4 = u % 4 := by omega
      rw [h1, h2]
      simp only [List.length_cons] at h
      exact ih u (by omega)
theorem sorted_list (d : Array Ev) (h : SortedIn (Go.Proofs.ltOf cmpE) 0 d.size d) : SrtE d.toList := by
  have key : ∀ (l : List Ev), (∀ i j (hi : i < j) (hj : j < l.length), ltE l[j] (l[i]'(by omega)) = false) → SrtE l := by
    intro l
    induction l with
    | nil => intro _; trivial
    | cons e r ih =>
      intro h
      refine ⟨fun f hf => ?_, ih fun i j hi hj => ?_⟩
      · obtain ⟨i, hi, rfl⟩ := List.mem_iff_getElem.1 hf
        exact h 0 (i + 1) (by omega) (by simp; omega)
      · exact h (i + 1) (j + 1) (by omega) (by simp; omega)
  refine key _ fun i j hi hj => ?_
  have hj' : j < d.size := by simpa using hj
  have := h i j (Nat.zero_le _) hi hj'
  rw [getElem!_pos d j hj', getElem!_pos d i (by omega)] at this
  show Go.Proofs.ltOf cmpE (d.toList[j]) (d.toList[i]) = false
  simpa using this
theorem perm_list {d d' : Array Ev} (h : PermIn 0 d.size d d') : d'.toList.Perm d.toList ∧ d'.size = d.size := by
  obtain ⟨h1, _, h3⟩ := h
  refine ⟨?_, h1⟩
  have e1 : d.extract 0 d.size = d := by simp
  have e2 : d'.extract 0 d.size = d' := by rw [← h1]; simp
  rw [e1, e2] at h3
  exact h3
set_option maxHeartbeats 1000000 in
theorem sort_w (d : List Ev) (v : Value) (base : Nat) (w : World) (hown : w.ownsRow base 103 4 v d.length (d.flatMap encE)) (hd : d.length ≤ 4000) :
    Calls Tryz.prog 110 #[v, .func (.func 84) #[] #[]] w fun e w' => e = .returned (.tuple #[]) ∧ ∃ d', SrtE d' ∧ d'.Perm d ∧ w'.ownsRow base 103 4 v d'.length (d'.flatMap encE) ∧ Below base w w' := by
  by_cases h0 : d = []
  · subst h0
    obtain ⟨p, cap, rfl⟩ : ∃ p cap, v = .slice p 0 cap := by
      rcases hown.2 with ⟨rfl, _⟩ | ⟨g, cap, cur, rfl, _⟩
      · exact ⟨_, _, rfl⟩
      · exact ⟨_, _, rfl⟩
    have h := AnyF.slices_SortFunc_none { Tryz.sortEv with } p cap (.func (.func 84) #[] #[]) w
    change Calls Tryz.prog 110 _ _ _ at h
    refine h.mono fun e w' ⟨he, hw⟩ => ⟨he, [], trivial, List.Perm.refl _, ?_, ?_⟩
    · rw [hw]; exact hown
    · rw [hw]; exact Below.refl _ _
  · rcases hown.2 with ⟨rfl, h1⟩ | ⟨g, cap, cur, rfl, hb, hg, hn, hm, hsz, htk⟩
    · exact absurd (List.length_eq_zero_iff.1 h1) h0
    · have hgl : g < w.heap.size := by rw [Array.getElem?_eq_some_iff] at hg; exact hg.1
      have hda : d = d.toArray.toList := rfl
      have hH : HoldsK encE 4 w g 0 d.toArray := by
        intro j hj
        rw [size_flatK] at hj
        have hj' : j < d.length * 4 := by simpa using hj
        rw [get_flatK _ _ _ _ hj]
        have hcell : w.cell? ⟨g, 0 + j, none⟩ = some ((encE d[j / 4]!)[j % 4]!) := by
          rw [Nat.zero_add]
          unfold World.cell?
          simp only
          rw [hg]
          show cur[j]? = _
          have h2 := flatE_get d j hj'
          rw [← htk, List.getElem?_take, if_pos hj', Array.getElem?_toList] at h2
          exact h2
        refine ⟨?_, ?_⟩
        · rw [hcell]
          have : d.toArray[j / 4]! = d[j / 4]! := by simp
          rw [this]; rfl
        · unfold World.frozen?; simp only; rw [hg]; simp
      have eg : ∀ args w, (callFunc 84 args).run Tryz.prog w = .ok (.enter 84 args) w := enters_of Tryz.func84 (by kernel_rfl) rfl
      have hcon := AnyQ.slices_SortFunc Tryz.sortEv 4 Tryz.isAgg103 Tryz.sizeOf103 encE (fun _ => rfl) (fun x v hv => by simp [encE] at hv; rcases hv with rfl | rfl | rfl | rfl <;> rfl) cmpE swoE 84 #[] g 0 cap d.toArray w eg (fun _ _ _ _ x y => compare_w x y _) hH hgl (by simp; omega)
      change Calls Tryz.prog 110 _ _ _ at hcon
      refine hcon.mono fun e w' ⟨he, d', n, os, hp, hs, hw⟩ => ?_
      obtain ⟨p1, p2⟩ := perm_list hp
      have p2' : d'.size = d.length := by simpa using p2
      have pl : d'.toList.length = d.length := (Array.length_toList (xs := d')).trans p2'
      have hblk : w'.heap[g]? = some (.cells (putCells id 0 (flatK encE 4 d') cur) 103 (0, 0)) := by
        rw [hw]
        show ((w.heap.modify g (onCells (putCells id 0 (flatK encE 4 d')))) ++ os)[g]? = _
        rw [Array.getElem?_append_left (by simpa using hgl), Array.getElem?_modify, if_pos rfl, hg]
        rfl
      have hoth : ∀ k, k ≠ g → k < w.heap.size → w'.heap[k]? = w.heap[k]? := by
        intro k hk hkl
        rw [hw]
        show ((w.heap.modify g (onCells (putCells id 0 (flatK encE 4 d')))) ++ os)[k]? = _
        rw [Array.getElem?_append_left (by simpa using hkl), Array.getElem?_modify, if_neg (Ne.symm hk)]
      refine ⟨he, d'.toList, sorted_list d' (by rw [p2]; exact hs), p1, ⟨by rw [flatE_len], .inr ⟨g, cap, _, by rw [pl], hb, hblk, by rw [pl]; exact hn, hm, by simp [putCells]; exact hsz, ?_⟩⟩, ?_⟩
      · apply List.ext_getElem?
        intro j
        rw [List.getElem?_take]
        by_cases hj : j < d'.toList.length * 4
        · rw [if_pos hj, flatE_get _ _ hj, Array.getElem?_toList]
          have hj2 : j < d.length * 4 := by rw [pl] at hj; exact hj
          have hjc : j < cur.size := by rw [hsz]; have := Nat.mul_le_mul_right 4 hn; omega
          have hjf : j < d'.size * 4 := by rw [p2']; exact hj2
          have : (putCells id 0 (flatK encE 4 d') cur)[j]? = some ((flatK encE 4 d')[j]!) := by
            unfold putCells
            rw [Array.getElem?_mapIdx, Array.getElem?_eq_getElem hjc]
            simp only [Option.map_some]
            rw [if_pos ⟨Nat.zero_le _, by rw [size_flatK]; omega⟩]
            rfl
          rw [this, get_flatK _ _ _ _ hjf]
          have hq : j / 4 < d'.size := by omega
          have : d'.toList[j / 4]! = d'[j / 4]! := by rw [getElem!_pos d' (j / 4) hq, getElem!_pos d'.toList (j / 4) (by simpa using hq)]; simp
          rw [this]
        · rw [if_neg hj]
          rw [List.getElem?_eq_none (by rw [flatE_len]; omega)]
      · refine ⟨by rw [hw]; rfl, by rw [hw]; rfl, by rw [hw]; rfl, ?_, fun k hk => hoth k (by omega) (by omega)⟩
        rw [hw]
        show w.heap.size ≤ ((w.heap.modify g (onCells (putCells id 0 (flatK encE 4 d')))) ++ os).size
        simp
set_option maxRecDepth 100000 in
set_option maxHeartbeats 4000000 in
theorem ends_w (b : Nat) (v0 v1 : Value) (l m : List Sp) (w : World) (h0 : IsSpans w v0 l) (h1 : IsSpans w v1 m) (hb : w.cell? ⟨b, 0, none⟩ = some v0 ∧ w.cell? ⟨b, 1, none⟩ = some v1) (hbl : b < w.heap.size)
    (hl : l.length ≤ 1000) (hm : m.length ≤ 1000) :
    Calls Tryz.prog 105 #[.slice (some ⟨b, 0, none⟩) 2 2] w fun e w' => ∃ v d', e = .returned v ∧ SrtE d' ∧ d'.Perm (evs 0 l ++ evs 1 m) ∧ w'.ownsRow w.heap.size 103 4 v d'.length (d'.flatMap encE) ∧ Below w.heap.size w w' := by
  obtain ⟨hb0, hb1⟩ := hb
  have H0 := Lib.hid h0
  have H1 := Lib.hid h1
  have mixed := mixedA
  clear h0 h1
  obtain ⟨i0, hi, hz0, hz1, hz2⟩ := info_parts infoE
  go_enter Tryz.func105, Tryz.ntmps105
  go_wp2
  go_loopw [3, 12] (fun v i wr => ∃ k : Nat, k ≤ 2 ∧ i = .int .i64 k ∧ wr.ownsRow w.heap.size 103 4 v (accE l m k).length ((accE l m k).flatMap encE) ∧ Below w.heap.size w wr) (fun _ i _ => 2 - (intOf i).toNat)
  case atStart => exact ⟨0, by omega, rfl, World.ownsRow_nil _ _ _ _, Below.refl _ _⟩
  case round =>
    obtain ⟨k, hk, rfl, hown, hnx⟩ := hrel
    by_cases hlt : k < 2
    · obtain ⟨vk, L, hL, hck, hLl, hacc, hal⟩ := accE_step H0.out H1.out hb0 hb1 hl hm k hlt
      have hckr : wr.cell? ⟨b, k, none⟩ = some vk := (hnx.cell (by exact hbl)).trans hck
      have HL := Lib.hid hL
      have Hacc := Lib.hid hacc
      obtain ⟨bb, off, cap, a, rfl, hlc, hcm, haa, hcells⟩ := hL.form
      unfold maxLen at hcm
      have Ha := Lib.hid haa
      have HC := Lib.hid hcells
      have Hown := Lib.hid hown
      have Hnx := Lib.hid hnx
      clear hL hck hb0 hb1 haa hcells hacc hown hnx
      have hdk : decide ((k : Int) < 2) = true := by simp; omega
      go_wp2
      go_loopw [3, 19] (fun v i wz => ∃ j : Nat, j ≤ L.length ∧ i = .int .i64 j ∧ wz.ownsRow w.heap.size 103 4 v (accE l m k ++ evs k (L.take j)).length ((accE l m k ++ evs k (L.take j)).flatMap encE) ∧ Below w.heap.size w wz) (fun _ i _ => L.length - (intOf i).toNat)
      case atStart => exact ⟨0, Nat.zero_le _, rfl, by simpa [evs] using Hown.out, Hnx.out⟩
      case round =>
        obtain ⟨j, hj, rfl, hown, hnx⟩ := hrel
        by_cases hjl : j < L.length
        · obtain ⟨rfl, d0, d1⟩ := HC.out j hjl
          have hbb := (Ha.out (by rintro rfl; simp at hjl)).2
          have c0 := (hnx.cell (p := ⟨bb, off + j * 2, none⟩) (by exact hbb)).trans d0
          have c1 := (hnx.cell (p := ⟨bb, off + j * 2 + 1, none⟩) (by exact hbb)).trans d1
          have Htake := Lib.hid (evs_take k L j hjl)
          have hel := evs_length k (L.take j)
          rw [List.length_take] at hel
          generalize hs : L[j] = s at *
          obtain ⟨sl, sh⟩ := s
          have he := fun wx => empty_w sl sh wx
          have hlo := fun wx => low_w sl sh wx
          have hhi := fun wx => high_w sl sh wx
          have Hown2 := Lib.hid hown
          have Hnx2 := Lib.hid hnx
          have Hel := Lib.hid hel
          clear d0 d1 hs hown hnx hel
          cases hem : emptyB (sl, sh) with
          | true =>
            rw [hem] at he
            have H := Lib.hid (show endsOf k (sl, sh) = [] from by unfold endsOf; rw [hem]; rfl)
            clear hem hlo hhi
            go_wp2_with (go_at_call 55; refine (he _).mono ?_; rintro e w1 ⟨rfl, hg1⟩)
            have bel1 : Hid (Below wr.heap.size wr w1) := Lib.hid (Below.trans ((Below.refl wr.heap.size wr).alloc (Nat.le_refl _) _) (hg1.below (by simp)))
            clear hg1
            go_wp2
            go_roundw
            case rel => exact ⟨j + 1, by omega, by go_num, by rw [Htake.out, H.out, List.append_nil]; exact owns_below Hown2.out bel1.out, Below.next Hnx2.out (Nat.le_refl _) bel1.out⟩
            case measure => simp [intOf]; omega
          | false =>
            rw [hem] at he
            have H := Lib.hid (show endsOf k (sl, sh) = [(sl, false, 1, (k : Int)), (sh, sh.isEmpty, -1, (k : Int))] from by unfold endsOf; rw [hem]; rfl)
            clear hem
            go_wp2_with (go_at_call 55; refine (he _).mono ?_; rintro e w1 ⟨rfl, hg1⟩; have hbw := hg1.below (Nat.le_refl _); have sB := Blk.below (Blk.new _ _ _) hbw (by simp); have hsz1 : wr.heap.size < w1.heap.size := sB.lt; have HB1 := Lib.hid (Below.next ((Below.refl wr.heap.size wr).alloc (Nat.le_refl _) (.cells #[.string (Str sl), .string (Str sh)] 38)) (Nat.le_refl _) hbw); have s0 : w1.cell? ⟨wr.heap.size, 0, none⟩ = some (.string (Str sl)) := sB.c0 0 _ rfl; have s1 : w1.cell? ⟨wr.heap.size, 1, none⟩ = some (.string (Str sh)) := sB.c0 1 _ rfl; have HsB := Lib.hid sB; clear hg1 hbw sB he)
            go_cut [8, 9] (fun s8 s9 wx => ∃ x y, s8 = .pointer (some ⟨x, 0, none⟩) ∧ s9 = .pointer (some ⟨y, 0, none⟩) ∧ TwoEnds wr.heap.size wr wx x y #[.string (Str sl), .bool false, .int .i64 1, .int .i64 0] #[.string (Str sh), .bool sh.isEmpty, .int .i64 (-1), .int .i64 0])
            case first =>
              go_region_held3 (fun wq => wq.cell? ⟨wr.heap.size, 0, none⟩ = some (.string (Str sl)) ∧ wq.cell? ⟨wr.heap.size, 1, none⟩ = some (.string (Str sh))) (((try dsimp only); (refine ⟨?_, ?_⟩) <;> ((repeat (first | with_reducible assumption | rw [World.cell?_drew] | rw [World.cell?_alloc_lt _ _ _ (by first | omega | (dsimp only; omega) | (simp only [World.size_alloc, World.size_setCell]; omega))] | rw [World.cell?_setCell_far _ _ _ _ (by first | omega | (dsimp only; omega) | (simp only [World.size_alloc, World.size_drew, World.size_setCell]; omega))])); done)))
                (first
                  | (go_at_call 85; refine (hlo _).mono ?_; rintro e w2 ⟨rfl, hg2⟩; obtain ⟨q0, q1⟩ := Grown.keepS (b := wr.heap.size) (u := .string (Str sl)) (v := .string (Str sh)) hg2 (by with_reducible assumption); have n2 : w1.heap.size ≤ w2.heap.size := Nat.le_trans (by first | exact Nat.le_refl _ | (simp only [World.size_alloc, World.size_drew]; omega)) (hg2.below (Nat.le_refl _)).size; have NB2 : Hid (Below wr.heap.size wr w2) := Lib.hid (Below.trans (by repeat (first | with_reducible exact HB1.out | with_reducible refine Below.drew ?_ | with_reducible refine Below.alloc ?_ ?_ _ | omega | (simp only [World.size_alloc]; omega))) (hg2.below (by first | omega | (simp only [World.size_drew, World.size_alloc]; omega)))); (try (have z1 : Blk w2 w1.heap.size 103 #[.string ⟨#[]⟩, .bool false, .int .i64 0, .int .i64 0] := Grown.blk hg2 (Blk.new w1.drew 103 #[.string ⟨#[]⟩, .bool false, .int .i64 0, .int .i64 0]); obtain ⟨a0, a1, a2, a3, a4, a5, a6, a7⟩ := Blk.four z1; have z1n := Nat.ne_of_lt z1.lt; have z1l := z1.lt; have Z1 := Lib.hid z1; clear z1)); (try (have z1 : Blk w2 w1.heap.size 103 #[.string ⟨#[]⟩, .bool false, .int .i64 0, .int .i64 0] := Grown.blk hg2 ((Blk.new w1.drew 103 #[.string ⟨#[]⟩, .bool false, .int .i64 0, .int .i64 0]).alloc _); have z2 : Blk w2 (w1.heap.size + 1) 103 #[.string ⟨#[]⟩, .bool false, .int .i64 0, .int .i64 0] := Grown.blk hg2 (Blk.new' (World.alloc w1.drew _) 103 #[.string ⟨#[]⟩, .bool false, .int .i64 0, .int .i64 0] (by simp)); obtain ⟨a0, a1, a2, a3, a4, a5, a6, a7⟩ := Blk.four z1; obtain ⟨b0, b1, b2, b3, b4, b5, b6, b7⟩ := Blk.four z2; have z1n := Nat.ne_of_lt z1.lt; have z1l := z1.lt; have Z1 := Lib.hid z1; have z2n := Nat.ne_of_lt z2.lt; have z2l := z2.lt; have Z2 := Lib.hid z2; clear z1 z2)); clear hg2)
                  | (go_at_call 83; refine (hhi _).mono ?_; rintro e w3 ⟨rfl, hg3⟩; obtain ⟨q0, q1⟩ := Grown.keepS (b := wr.heap.size) (u := .string (Str sl)) (v := .string (Str sh)) hg3 (by with_reducible assumption); have n3 : w2.heap.size ≤ w3.heap.size := Nat.le_trans (by first | exact Nat.le_refl _ | (simp only [World.size_alloc]; omega)) (hg3.below (Nat.le_refl _)).size; have NB3 : Hid (Below wr.heap.size wr w3) := Lib.hid (Below.trans (by repeat (first | with_reducible exact NB2.out | with_reducible refine Below.drew ?_ | with_reducible refine Below.alloc ?_ ?_ _ | omega | (simp only [World.size_alloc]; omega))) (hg3.below (by first | omega | (simp only [World.size_alloc]; omega)))); (try (have y1 := Grown.blk hg3 Z1.out; obtain ⟨c0, c1, c2, c3, c4, c5, c6, c7⟩ := Blk.four y1; obtain ⟨g0, g1, g2, g3, g4, g5, g6, g7⟩ := Blk.four (y1.alloc (.cells #[.string ⟨#[]⟩, .bool false, .int .i64 0, .int .i64 0] 103)); have y1n := Nat.ne_of_lt y1.lt; have y1l := y1.lt; have Y1 := Lib.hid y1; clear y1)); (try (have y1 := Grown.blk hg3 (Z1.out.alloc _); obtain ⟨c0, c1, c2, c3, c4, c5, c6, c7⟩ := Blk.four y1; obtain ⟨g0, g1, g2, g3, g4, g5, g6, g7⟩ := Blk.four (y1.alloc (.cells #[.string ⟨#[]⟩, .bool false, .int .i64 0, .int .i64 0] 103)); have y1n := Nat.ne_of_lt y1.lt; have y1l := y1.lt; have Y1 := Lib.hid y1; clear y1)); (try (have y2 := Grown.blk hg3 Z2.out; obtain ⟨d0, d1, d2, d3, d4, d5, d6, d7⟩ := Blk.four y2; obtain ⟨g0, g1, g2, g3, g4, g5, g6, g7⟩ := Blk.four (y2.alloc (.cells #[.string ⟨#[]⟩, .bool false, .int .i64 0, .int .i64 0] 103)); have y2n := Nat.ne_of_lt y2.lt; have y2l := y2.lt; have Y2 := Lib.hid y2; clear y2)); (try (have y3 : Blk w3 w2.heap.size 103 #[.string ⟨#[]⟩, .bool false, .int .i64 0, .int .i64 0] := Grown.blk hg3 (Blk.new w2 103 #[.string ⟨#[]⟩, .bool false, .int .i64 0, .int .i64 0]); obtain ⟨e0, e1, e2, e3, e4, e5, e6, e7⟩ := Blk.four y3; obtain ⟨g0, g1, g2, g3, g4, g5, g6, g7⟩ := Blk.four (y3.alloc (.cells #[.string ⟨#[]⟩, .bool false, .int .i64 0, .int .i64 0] 103)); have y3n := Nat.ne_of_lt y3.lt; have y3l := y3.lt; have Y3 := Lib.hid y3; clear y3)); (try (have y3 : Blk w3 w2.heap.size 103 #[.string ⟨#[]⟩, .bool false, .int .i64 0, .int .i64 0] := Grown.blk hg3 ((Blk.new w2 103 #[.string ⟨#[]⟩, .bool false, .int .i64 0, .int .i64 0]).alloc _); have y4 : Blk w3 (w2.heap.size + 1) 103 #[.string ⟨#[]⟩, .bool false, .int .i64 0, .int .i64 0] := Grown.blk hg3 (Blk.new' (World.alloc w2 _) 103 #[.string ⟨#[]⟩, .bool false, .int .i64 0, .int .i64 0] (by simp)); obtain ⟨e0, e1, e2, e3, e4, e5, e6, e7⟩ := Blk.four y3; obtain ⟨f0, f1, f2, f3, f4, f5, f6, f7⟩ := Blk.four y4; obtain ⟨g0, g1, g2, g3, g4, g5, g6, g7⟩ := Blk.four (y3.alloc (.cells #[.string ⟨#[]⟩, .bool false, .int .i64 0, .int .i64 0] 103)); have y3n := Nat.ne_of_lt y3.lt; have y3l := y3.lt; have Y3 := Lib.hid y3; obtain ⟨g0, g1, g2, g3, g4, g5, g6, g7⟩ := Blk.four (y4.alloc (.cells #[.string ⟨#[]⟩, .bool false, .int .i64 0, .int .i64 0] 103)); have y4n := Nat.ne_of_lt y4.lt; have y4l := y4.lt; have Y4 := Lib.hid y4; clear y3 y4)); clear hg3))
              all_goals (go_wp2_with fail; go_meet)
              all_goals refine ⟨_, _, rfl, rfl, ?_⟩
              all_goals first
                | with_reducible exact TwoEnds.new1 NB3.out (by omega)
                | with_reducible exact TwoEnds.new2 NB3.out (by omega)
                | with_reducible exact TwoEnds.mix1 NB3.out (by omega) Y1.out (by omega)
                | with_reducible exact TwoEnds.mix2 NB3.out (by omega) Y1.out (by omega)
                | with_reducible exact TwoEnds.mix1 NB3.out (by omega) Y2.out (by omega)
                | with_reducible exact TwoEnds.mix2 NB3.out (by omega) Y2.out (by omega)
                | with_reducible exact TwoEnds.mix1 NB3.out (by omega) Y3.out (by omega)
                | with_reducible exact TwoEnds.mix2 NB3.out (by omega) Y3.out (by omega)
                | with_reducible exact TwoEnds.mix1 NB3.out (by omega) Y4.out (by omega)
                | with_reducible exact TwoEnds.mix2 NB3.out (by omega) Y4.out (by omega)
                | with_reducible exact TwoEnds.old NB3.out Y1.out Y2.out (by omega) (by omega) (by omega)
                | with_reducible exact TwoEnds.old NB3.out Y1.out Y3.out (by omega) (by omega) (by omega)
                | with_reducible exact TwoEnds.old NB3.out Y1.out Y4.out (by omega) (by omega) (by omega)
                | with_reducible exact TwoEnds.old NB3.out Y2.out Y1.out (by omega) (by omega) (by omega)
                | with_reducible exact TwoEnds.old NB3.out Y2.out Y3.out (by omega) (by omega) (by omega)
                | with_reducible exact TwoEnds.old NB3.out Y2.out Y4.out (by omega) (by omega) (by omega)
                | with_reducible exact TwoEnds.old NB3.out Y3.out Y1.out (by omega) (by omega) (by omega)
                | with_reducible exact TwoEnds.old NB3.out Y3.out Y2.out (by omega) (by omega) (by omega)
                | with_reducible exact TwoEnds.old NB3.out Y3.out Y4.out (by omega) (by omega) (by omega)
                | with_reducible exact TwoEnds.old NB3.out Y4.out Y1.out (by omega) (by omega) (by omega)
                | with_reducible exact TwoEnds.old NB3.out Y4.out Y2.out (by omega) (by omega) (by omega)
                | with_reducible exact TwoEnds.old NB3.out Y4.out Y3.out (by omega) (by omega) (by omega)
            case rest =>
              obtain ⟨x, y, rfl, rfl, TE⟩ := hcut
              obtain ⟨a0, a1, a2, a3, a4, a5, a6, a7⟩ := Blk.four TE.one
              obtain ⟨b0, b1, b2, b3, b4, b5, b6, b7⟩ := Blk.four TE.two
              have hne := TE.ne
              have hne' := Ne.symm TE.ne
              have hxl := TE.one.lt
              have hyl := TE.two.lt
              have HTE := Lib.hid TE
              have Hxs := Lib.hid hxl
              clear TE s0 s1 hsz1 HB1 HsB hlo hhi
              go_wp2_with (first
                | (at_builtin; refine wpList_append_own _ rfl _ _ 135 rfl w.heap.size 103 i0 (.agg #[.string ⟨#[]⟩, .bool false, .int .i64 0, .int .i64 0]) 4 40 Tryz.underlying135 hi hz0 hz1 hz2 rfl (by decide) _ _ _ rfl (owns_below Hown2.out (((HTE.out.bel.setCell HTE.out.lo _).setCell HTE.out.hi _).alloc (by have := HTE.out.bel.size; simpa using this) _)) ⟨wc.heap.size, 0, none⟩ 2 2 [.string (Str sl), .bool false, .int .i64 1, .int .i64 k, .string (Str sh), .bool sh.isEmpty, .int .i64 (-1), .int .i64 k] rfl rfl (cells_new' _ _ _ (by simp)) (by intro u hu; simp at hu; rcases hu with rfl | rfl | rfl | rfl | rfl | rfl | rfl | rfl <;> rfl) (by simp; unfold maxLen; have := Hel.out; omega) (by simp; have := Hel.out; omega) (by have h1 := HTE.out.bel.size; have h2 := Hnx2.out.size; simp; omega) ?_; intro v' w2 hown' hgrow _))
              have e2 : accE l m k ++ evs k (L.take (j + 1)) = (accE l m k ++ evs k (L.take j)) ++ [(sl, false, 1, (k : Int)), (sh, sh.isEmpty, -1, (k : Int))] := by rw [Htake.out, H.out, List.append_assoc]
              have q1 : w.heap.size ≤ wr.heap.size := Hnx2.out.size
              have q2 : wr.heap.size ≤ x := HTE.out.lo
              have q3 : wr.heap.size ≤ y := HTE.out.hi
              have q4 : wr.heap.size ≤ wc.heap.size := HTE.out.bel.size
              have r1 : Below w.heap.size w wc := Below.next Hnx2.out (Nat.le_refl _) HTE.out.bel
              have r2 := Below.grown (((r1.setCell (Nat.le_trans q1 q2) _).setCell (Nat.le_trans q1 q3) _).alloc (by simp; omega) _) hgrow (by simp; omega) (fun q hq => (Hown2.out.lt q hq).1)
              have bel2 := Lib.hid r2
              clear q1 q2 q3 q4 r1 r2
              have Hown' := Lib.hid hown'
              have He2 := Lib.hid e2
              clear hown' hgrow e2 a0 a1 a2 a3 a4 a5 a6 a7 b0 b1 b2 b3 b4 b5 b6 b7
              go_wp2
              go_roundw
              case rel => exact ⟨j + 1, by omega, by go_num, by rw [He2.out, List.length_append, List.flatMap_append]; exact Hown'.out, bel2.out⟩
              case measure => simp [intOf]; omega
        · obtain rfl : j = L.length := by omega
          have hown3 : Hid (wr.ownsRow w.heap.size 103 4 u3 (accE l m (k + 1)).length ((accE l m (k + 1)).flatMap encE)) := Lib.hid (by rw [Hacc.out]; rw [List.take_length] at hown; exact hown)
          have Hnx3 := Lib.hid hnx
          clear hown hnx
          go_wp2
          go_roundw
          case rel => exact ⟨k + 1, by omega, by go_num, hown3.out, Hnx3.out⟩
          case measure => simp [intOf]; omega
    · obtain rfl : k = 2 := by omega
      have hd : accE l m 2 = evs 0 l ++ evs 1 m := by simp [accE]
      rw [hd] at hown
      have hds : (evs 0 l ++ evs 1 m).length ≤ 4000 := by have h1 := evs_length 0 l; have h2 := evs_length 1 m; rw [List.length_append]; omega
      have Hs := Lib.hid (fun wx v hx => sort_w (evs 0 l ++ evs 1 m) v w.heap.size wx hx hds)
      have Hown := Lib.hid hown
      have Hnx := Lib.hid hnx
      clear hown hnx hd
      go_wp2_with (go_at_call 110; refine (Hs.out _ _ Hown.out).mono ?_; rintro e w1 ⟨rfl, d', hsrt, hprm, hown1, hbel1⟩)
      go_ret
      exact ⟨_, d', rfl, hsrt, hprm, hown1, Below.trans Hnx.out hbel1⟩
/-- What the ends of lists are: they add one or take one away, of list 0 or 1. -/
def OkE (e : Ev) : Prop := (e.2.2.1 = 1 ∨ e.2.2.1 = -1) ∧ (e.2.2.2 = 0 ∨ e.2.2.2 = 1)
theorem evs_ok (i : Int) (hi : i = 0 ∨ i = 1) (l : List Sp) : ∀ e ∈ evs i l, OkE e := by
  intro e he
  unfold evs at he
  rw [List.mem_flatMap] at he
  obtain ⟨s, _, he⟩ := he
  split at he
  · cases he
  · simp at he
    rcases he with rfl | rfl
    · exact ⟨.inl rfl, hi⟩
    · exact ⟨.inr rfl, hi⟩
theorem owns_keep {w w' : World} {base : Nat} {e : TypeId} {size : Nat} {v : Value} {n : Nat} {xs : List Value} (h : w.ownsRow base e size v n xs) (hk : ∀ k, base ≤ k → k < w.heap.size → w'.heap[k]? = w.heap[k]?) : w'.ownsRow base e size v n xs := by
  refine ⟨h.1, ?_⟩
  rcases h.2 with h2 | ⟨g, cap, cur, h2, h3, h4, h5⟩
  · exact .inl h2
  · exact .inr ⟨g, cap, cur, h2, h3, by rw [hk g h3 (by rw [Array.getElem?_eq_some_iff] at h4; exact h4.1)]; exact h4, h5⟩
theorem keep_step {wr : World} {b i : Nat} {v : Value} {o : Obj} {base : Nat} (hb : b < base) : ∀ k, base ≤ k → k < wr.heap.size → (((wr.setCell ⟨b, i, none⟩ v).alloc o).drew).heap[k]? = wr.heap[k]? := by
  intro k h1 h2
  have hne : k ≠ b := by omega
  show ((wr.setCell ⟨b, i, none⟩ v).alloc o).heap[k]? = _
  rw [Below.heap_alloc _ _ _ (by simpa using h2), Below.heap_setCell _ _ _ _ hne]
/-- Where Minus stands. -/
structure MinSt (w w1 : World) (ob : Nat) (c0 c1 : Int) (wr : World) : Prop where
  o : Blk wr ob 134 #[.int .i64 c0, .int .i64 c1]
  keep : ∀ k, k < w1.heap.size → k ≠ ob → wr.heap[k]? = w1.heap[k]?
  size : w1.heap.size ≤ wr.heap.size
  bel : Below w.heap.size w wr
  old : w.heap.size ≤ ob
theorem MinSt.alloc {w w1 wr : World} {ob : Nat} {c0 c1 : Int} (h : MinSt w w1 ob c0 c1 wr) (o : Obj) : MinSt w w1 ob c0 c1 (wr.alloc o) :=
  ⟨h.o.alloc o, fun k hk hne => by rw [Below.heap_alloc _ _ _ (by have := h.size; omega)]; exact h.keep k hk hne, by have := h.size; simp; omega, h.bel.alloc h.bel.size o, h.old⟩
theorem MinSt.grown {w w1 wr : World} {ob : Nat} {c0 c1 : Int} (h : MinSt w w1 ob c0 c1 wr) (n : Nat) (os : Array Obj) : MinSt w w1 ob c0 c1 (grow (wr.drewN n) os) := by
  have hb := below_grown (B := wr.heap.size) wr n os (Nat.le_refl _)
  exact ⟨h.o.grown n os, fun k hk hne => by rw [hb.block k (by have := h.size; omega)]; exact h.keep k hk hne, Nat.le_trans h.size hb.size, Below.next h.bel (Nat.le_refl _) hb, h.old⟩
theorem MinSt.drew {w w1 wr : World} {ob : Nat} {c0 c1 : Int} (h : MinSt w w1 ob c0 c1 wr) : MinSt w w1 ob c0 c1 wr.drew :=
  ⟨h.o, h.keep, h.size, h.bel.drew, h.old⟩
theorem MinSt.set0 {w w1 wr : World} {ob : Nat} {c0 c1 : Int} (h : MinSt w w1 ob c0 c1 wr) (x : Int) : MinSt w w1 ob x c1 (wr.setCell ⟨ob, 0, none⟩ (.int .i64 x)) :=
  ⟨h.o.setCell 0 _, fun k hk hne => by rw [Below.heap_setCell _ _ _ _ hne]; exact h.keep k hk hne, by simpa using h.size, h.bel.setCell h.old _, h.old⟩
theorem MinSt.set1 {w w1 wr : World} {ob : Nat} {c0 c1 : Int} (h : MinSt w w1 ob c0 c1 wr) (x : Int) : MinSt w w1 ob c0 x (wr.setCell ⟨ob, 1, none⟩ (.int .i64 x)) :=
  ⟨h.o.setCell 1 _, fun k hk hne => by rw [Below.heap_setCell _ _ _ _ hne]; exact h.keep k hk hne, by simpa using h.size, h.bel.setCell h.old _, h.old⟩
theorem MinSt.grownBy {w w1 wr w2 : World} {ob : Nat} {c0 c1 : Int} {row : Option Nat} (h : MinSt w w1 ob c0 c1 wr) (hg : wr.grownBy w2 row) (hr : ∀ k, row = some k → w1.heap.size ≤ k) (hob : ob < w1.heap.size) : MinSt w w1 ob c0 c1 w2 := by
  have hb : Below w1.heap.size wr w2 := Below.grown (Below.refl _ _) hg h.size hr
  exact ⟨h.o.below hb hob, fun k hk hne => by rw [hb.block k hk]; exact h.keep k hk hne, Nat.le_trans h.size hb.size, Below.trans h.bel (hb.mono (by have := h.old; omega)), h.old⟩
theorem formE {w : World} {base : Nat} {v : Value} {l : List Ev} (h : w.ownsRow base 103 4 v l.length (l.flatMap encE)) : ∃ g p cap, v = .slice p l.length cap ∧ l.length ≤ cap ∧ cap ≤ maxLen ∧
    ∀ i (hi : i < l.length), p = some ⟨g, 0, none⟩ ∧ base ≤ g ∧ g < w.heap.size ∧ w.cell? ⟨g, i * 4, none⟩ = some (.string (Str l[i].1)) ∧ w.cell? ⟨g, i * 4 + 1, none⟩ = some (.bool l[i].2.1) ∧
      w.cell? ⟨g, i * 4 + 2, none⟩ = some (.int .i64 l[i].2.2.1) ∧ w.cell? ⟨g, i * 4 + 3, none⟩ = some (.int .i64 l[i].2.2.2) := by
  rcases h.2 with ⟨rfl, h0⟩ | ⟨g, cap, cur, rfl, hb, hg, hn, hm, hsz, htk⟩
  · exact ⟨0, none, 0, by rw [h0], by omega, by unfold maxLen; omega, fun i hi => by omega⟩
  · refine ⟨g, some ⟨g, 0, none⟩, cap, rfl, hn, hm, fun i hi => ⟨rfl, hb, by rw [Array.getElem?_eq_some_iff] at hg; exact hg.1, ?_⟩⟩
    have hc : ∀ t, t < l.length * 4 → w.cell? ⟨g, t, none⟩ = some ((encE l[t / 4]!)[t % 4]!) := by
      intro t ht
      unfold World.cell?
      simp only
      rw [hg]
      show cur[t]? = _
      have h2 := flatE_get l t ht
      rw [← htk, List.getElem?_take, if_pos ht, Array.getElem?_toList] at h2
      exact h2
    have e : l[i]! = l[i] := getElem!_pos l i hi
    refine ⟨?_, ?_, ?_, ?_⟩
    · rw [hc _ (by omega), show i * 4 / 4 = i by omega, show i * 4 % 4 = 0 by omega, e]; rfl
    · rw [hc _ (by omega), show (i * 4 + 1) / 4 = i by omega, show (i * 4 + 1) % 4 = 1 by omega, e]; rfl
    · rw [hc _ (by omega), show (i * 4 + 2) / 4 = i by omega, show (i * 4 + 2) % 4 = 2 by omega, e]; rfl
    · rw [hc _ (by omega), show (i * 4 + 3) / 4 = i by omega, show (i * 4 + 3) % 4 = 3 by omega, e]; rfl
set_option maxRecDepth 100000 in
set_option maxHeartbeats 4000000 in
theorem minus_w (v0 v1 : Value) (l m : List Sp) (w : World) (h0 : IsSpans w v0 l) (h1 : IsSpans w v1 m) (hl : l.length ≤ 1000) (hm : m.length ≤ 1000) :
    Calls Tryz.prog 93 #[v0, v1] w fun e w' => ∃ v, e = .returned v ∧ w'.ownsRow w.heap.size 38 2 v (minusS l m).length ((minusS l m).flatMap encS) ∧ Below w.heap.size w w' := by
  have mixed := mixedA
  obtain ⟨i0, hi, hz0, hz1, hz2⟩ := info_parts infoS
  obtain ⟨_, _, cap0, p0, rfl, _⟩ := h0.form
  obtain ⟨_, _, cap1, p1, rfl, _⟩ := h1.form
  have hbW : Below w.heap.size w ((w.alloc (.cells #[.int .i64 0, .int .i64 0] 134)).alloc (.cells #[.slice p0 l.length cap0, .slice p1 m.length cap1] 29)) := ((Below.refl _ w).alloc (Nat.le_refl _) _).alloc (by simp) _
  have hends := ends_w (w.heap.size + 1) (.slice p0 l.length cap0) (.slice p1 m.length cap1) l m ((w.alloc (.cells #[.int .i64 0, .int .i64 0] 134)).alloc (.cells #[.slice p0 l.length cap0, .slice p1 m.length cap1] 29)) (h0.below hbW) (h1.below hbW) (by constructor <;> simp) (by simp) hl hm
  have Hends := Lib.hid hends
  have HbW := Lib.hid hbW
  have Hob : Hid (Blk ((w.alloc (.cells #[.int .i64 0, .int .i64 0] 134)).alloc (.cells #[.slice p0 l.length cap0, .slice p1 m.length cap1] 29)) w.heap.size 134 #[.int .i64 0, .int .i64 0]) := Lib.hid ((Blk.new _ _ _).alloc _)
  clear hends hbW h0 h1
  go_enter Tryz.func93, Tryz.ntmps93
  go_wp2_with (go_at_call 105; refine Hends.out.mono ?_; rintro e w1 ⟨vE, d', rfl, hsrt, hprm, hownE, hbel1⟩; obtain ⟨g, p, cap, rfl, hn, hcm, hrow⟩ := formE hownE; have Hsrt := Lib.hid hsrt; have Hprm := Lib.hid hprm; have Hbel1 := Lib.hid hbel1; have Hrow := Lib.hid hrow; clear hsrt hprm hownE hbel1 hrow)
  have hdl : d'.length ≤ 4000 := by
    have h1 := Hprm.out.length_eq
    have h2 := evs_length 0 l
    have h3 := evs_length 1 m
    rw [List.length_append] at h1
    omega
  have Hok : Hid (∀ e ∈ d', OkE e) := Lib.hid (fun e he => by
    rcases List.mem_append.1 (Hprm.out.mem_iff.1 he) with h | h
    · exact evs_ok 0 (.inl rfl) l e h
    · exact evs_ok 1 (.inr rfl) m e h)
  have Hfin := Lib.hid (sweep_eq l m d' Hprm.out Hsrt.out)
  have hws : w.heap.size + 2 ≤ w1.heap.size := by have := Hbel1.out.size; simpa using this
  have HM0 : Hid (MinSt w w1 w.heap.size 0 0 w1) := Lib.hid ⟨Blk.below Hob.out Hbel1.out (by simp only [World.size_alloc]; omega), fun _ _ _ => rfl, Nat.le_refl _, Below.trans HbW.out (Hbel1.out.mono (by simp only [World.size_alloc]; omega)), Nat.le_refl _⟩
  clear Hends HbW Hob
  unfold maxLen at hcm
  go_wp2
  go_loopw [5, 7, 8, 19] (fun v sl si i wr => ∃ (k : Nat) (left : List Sp) (lo : Bs) (ins : Bool) (c0 c1 : Int), k ≤ d'.length ∧ i = .int .i64 k ∧ sl = .string (Str lo) ∧ si = .bool ins ∧ wr.ownsRow w1.heap.size 38 2 v left.length (left.flatMap encS) ∧
      MinSt w w1 w.heap.size c0 c1 wr ∧ -(k : Int) ≤ c0 ∧ c0 ≤ k ∧ -(k : Int) ≤ c1 ∧ c1 ≤ k ∧ left.length ≤ k ∧ Hid (left ++ sweep c0 c1 ins lo (d'.drop k) = minusS l m)) (fun _ _ _ i _ => d'.length - (intOf i).toNat)
  case atStart => exact ⟨0, [], [], false, 0, 0, Nat.zero_le _, rfl, rfl, rfl, World.ownsRow_nil _ _ _ _, HM0.out, by omega, by omega, by omega, by omega, Nat.le_refl _, Lib.hid (by rw [List.nil_append, List.drop_zero]; exact Hfin.out)⟩
  case round =>
    obtain ⟨k, left, lo, ins, c0, c1, hk, rfl, rfl, rfl, hown, hst, b0, b0', b1, b1', hll, hsw⟩ := hrel
    by_cases hlt : k < d'.length
    · obtain ⟨rfl, hgb, hgl, e0, e1, e2, e3⟩ := Hrow.out k hlt
      have okk := Hok.out _ (List.getElem_mem hlt)
      have hgne : g ≠ w.heap.size := by have := Hbel1.out.size; simp only [World.size_alloc] at *; omega
      have hkeep : ∀ x y, w1.cell? ⟨g, x, none⟩ = some y → wr.cell? ⟨g, x, none⟩ = some y := fun x y h => by
        rw [← h]; exact World.cell?_of_block (hst.keep g hgl hgne)
      have e0 := hkeep _ _ e0
      have e1 := hkeep _ _ e1
      have e2 := hkeep _ _ e2
      have e3 := hkeep _ _ e3
      have Hdrop : Hid (d'.drop k = d'[k] :: d'.drop (k + 1)) := Lib.hid (List.drop_eq_getElem_cons hlt)
      have hobl : w.heap.size < wr.heap.size := hst.o.lt
      have o0 := hst.o.c0 0 _ rfl
      have o1 := hst.o.c0 1 _ rfl
      have of0 := hst.o.free 0
      have of1 := hst.o.free 1
      have Hst := Lib.hid hst
      have Hown := Lib.hid hown
      clear hst hown hkeep
      generalize hx : d'[k] = x at *
      obtain ⟨key, top, step, li⟩ := x
      obtain ⟨hstep, hli⟩ := okk
      simp only at hstep hli e0 e1 e2 e3
      obtain ⟨n0, hn0⟩ : ∃ n0, n0 = openI 0 c0 (key, top, step, li) := ⟨_, rfl⟩
      obtain ⟨n1, hn1⟩ : ∃ n1, n1 = openI 1 c1 (key, top, step, li) := ⟨_, rfl⟩
      have hnb : -((k : Int) + 1) ≤ n0 ∧ n0 ≤ k + 1 ∧ -((k : Int) + 1) ≤ n1 ∧ n1 ≤ k + 1 := by
        rw [hn0, hn1]; unfold openI
        rcases hli with rfl | rfl <;> rcases hstep with rfl | rfl <;> simp <;> omega
      have hnn : (li = 0 ∧ n0 = c0 + step ∧ n1 = c1) ∨ (li = 1 ∧ n0 = c0 ∧ n1 = c1 + step) := by
        rw [hn0, hn1]; unfold openI
        rcases hli with rfl | rfl
        · left; simp
        · right; simp
      have Hn0 := Lib.hid hn0
      have Hn1 := Lib.hid hn1
      have Hnn := Lib.hid hnn
      clear hn0 hn1 hnn
      have hkd : (k : Int) + 1 ≤ 4000 := by omega
      have EB : Hid (Blk (wr.alloc (.cells #[.string (Str key), .bool top, .int .i64 step, .int .i64 li] 103)) wr.heap.size 103 #[.string (Str key), .bool top, .int .i64 step, .int .i64 li]) := Lib.hid (Blk.new _ _ _)
      go_wp2
      go_cut [24] (fun _ wx => wx.ownsRow w1.heap.size 38 2 u5 left.length (left.flatMap encS) ∧ MinSt w w1 w.heap.size n0 n1 wx ∧ Blk wx wr.heap.size 103 #[.string (Str key), .bool top, .int .i64 step, .int .i64 li])
      case first =>
        rcases Hnn.out with ⟨rfl, rfl, rfl⟩ | ⟨rfl, rfl, rfl⟩
        · have hs1 : -4000 ≤ c0 + step ∧ c0 + step ≤ 4000 := by omega
          obtain ⟨hs1, hs2⟩ := hs1
          go_region
          all_goals (go_wp2_with fail; go_meet)
          all_goals
            refine ⟨owns_keep Hown.out (keep_step (by omega)), ?_, ?_⟩
            · exact ((Hst.out.set0 _).alloc _).drew
            · exact (Blk.new' (World.setCell wr _ _) _ _ (by simp)).drewN 1
        · have hs1 : -4000 ≤ c1 + step ∧ c1 + step ≤ 4000 := by omega
          obtain ⟨hs1, hs2⟩ := hs1
          go_region
          all_goals (go_wp2_with fail; go_meet)
          all_goals
            refine ⟨owns_keep Hown.out (keep_step (by omega)), ?_, ?_⟩
            · exact ((Hst.out.set1 _).alloc _).drew
            · exact (Blk.new' (World.setCell wr _ _) _ _ (by simp)).drewN 1
      case rest =>
        obtain ⟨hown2, hst2, heb⟩ := hcut
        have Hown2 := Lib.hid hown2
        clear hown2
        have x0 := heb.c 0 _ rfl
        have x1 := heb.c 1 _ rfl
        have x2 := heb.c 2 _ rfl
        have x3 := heb.c 3 _ rfl
        simp only [List.getElem_toArray, List.getElem_cons_zero, List.getElem_cons_succ] at x0 x1 x2 x3
        have Hst2 := Lib.hid hst2
        have Heb := Lib.hid heb
        have hsame : Hid (k + 1 < d'.length → sameNext (key, top, step, li) (d'.drop (k + 1)) = decide (cmpE (key, top, step, li) (d'[k + 1]!) = 0)) := Lib.hid (fun h => by
          rw [List.drop_eq_getElem_cons h, getElem!_pos d' (k + 1) h]; rfl)
        have hsame2 : Hid (¬ k + 1 < d'.length → sameNext (key, top, step, li) (d'.drop (k + 1)) = false) := Lib.hid (fun h => by
          rw [List.drop_eq_nil_of_le (by omega)]; rfl)
        clear hst2 heb e0 e1 e2 e3 o0 o1 of0 of1
        have hwk : IntKind.i64.wrap ((k : Int) + 1) = (k : Int) + 1 := by rw [IntKind.wrap_i64]; omega
        have hkn : ((k : Int) + 1).toNat = k + 1 := by omega
        have hk0 : (0 : Int) ≤ (k : Int) + 1 := by omega
        go_wp2_with fail
        go_cut [46] (fun s46 wx => s46 = .bool (sameNext (key, top, step, li) (d'.drop (k + 1))) ∧ wx.ownsRow w1.heap.size 38 2 u5 left.length (left.flatMap encS) ∧ MinSt w w1 w.heap.size n0 n1 wx ∧ Blk wx wr.heap.size 103 #[.string (Str key), .bool top, .int .i64 step, .int .i64 li])
        case first =>
          by_cases hk1 : k + 1 < d'.length
          · have hk1z : (k : Int) + 1 < (d'.length : Int) := by omega
            have hs := hsame.out hk1
            obtain ⟨_, _, _, f0, f1, f2, f3⟩ := Hrow.out (k + 1) hk1
            rw [getElem!_pos d' (k + 1) hk1] at hs
            have hkeep : ∀ x y, w1.cell? ⟨g, x, none⟩ = some y → ∀ n os, (grow (wc.drewN n) os).cell? ⟨g, x, none⟩ = some y := fun x y h n os =>
              cell_grown (by exact Nat.lt_of_lt_of_le hgl Hst2.out.size) (by rw [← h]; exact World.cell?_of_block (Hst2.out.keep g hgl hgne)) n os
            have f0 := hkeep _ _ f0
            have f1 := hkeep _ _ f1
            have f2 := hkeep _ _ f2
            have f3 := hkeep _ _ f3
            clear hkeep
            generalize hy : d'[k + 1] = y at *
            obtain ⟨ykey, ytop, ystep, yli⟩ := y
            have hc := fun wx => compare_w (key, top, step, li) (ykey, ytop, ystep, yli) wx
            simp only [encE] at hc f0 f1 f2 f3
            generalize cmpE (key, top, step, li) (ykey, ytop, ystep, yli) = r at *
            have Hs := Lib.hid hs
            clear hs hy
            refine wp_region_quiet_grown mixed (by kernel_rfl) ?_
            repeat (first | go_big_quiet_skip | (refine wpQuiet_step (fun K hK => ?_); have HK := Lib.hid hK; clear hK; go_simp; first | (refine HK.out _ ?_; clear HK K) | (apply Exists.intro; refine ⟨fun _ => ?_, HK.out _ ?_⟩; (first | (go_at_call 84; refine calls_grown (hc _))); clear HK K)))
            refine wpQuiet_nil ?_
            intro _ hw'
            obtain ⟨⟨nq, osq⟩, hw''⟩ := hw'
            subst hw''
            go_wp2_with fail
            go_meet
            refine ⟨?_, owns_below Hown2.out (below_grown _ _ _ (Nat.le_refl _)), Hst2.out.grown _ _, Heb.out.grown _ _⟩
            rw [Hs.out]
            first | rfl | (congr 1)
          · have hk1z : decide ((k : Int) + 1 < (d'.length : Int)) = false := by simp; omega
            have Hs := Lib.hid (hsame2.out hk1)
            clear hk1
            refine wp_region_quiet_grown mixed (by kernel_rfl) ?_
            repeat (first | go_big_quiet_skip | (refine wpQuiet_step (fun K hK => ?_); have HK := Lib.hid hK; clear hK; go_simp; first | (refine HK.out _ ?_; clear HK K) | (apply Exists.intro; refine ⟨fun _ => ?_, HK.out _ ?_⟩; skip; clear HK K)))
            refine wpQuiet_nil ?_
            intro _ hw'
            obtain ⟨⟨nq, osq⟩, hw''⟩ := hw'
            subst hw''
            go_wp2_with fail
            go_meet
            refine ⟨?_, owns_below Hown2.out (below_grown _ _ _ (Nat.le_refl _)), Hst2.out.grown _ _, Heb.out.grown _ _⟩
            rw [Hs.out]
        case rest =>
          obtain ⟨rfl, hown3, hst3, heb3⟩ := hcut
          have o0 := hst3.o.c0 0 _ rfl
          have o1 := hst3.o.c0 1 _ rfl
          have y0 := heb3.c0 0 _ rfl
          simp only [List.getElem_toArray, List.getElem_cons_zero, List.getElem_cons_succ] at o0 o1 y0
          have Hst3 := Lib.hid hst3
          have Hown3 := Lib.hid hown3
          obtain ⟨nb0, nb0', nb1, nb1'⟩ := hnb
          clear hst3 heb3 hown3 x0 x1 x2 x3 hwk hkn hk0 hsame hsame2 Hnn EB
          have Hsw : Hid (minusS l m = left ++ sweep c0 c1 ins lo ((key, top, step, li) :: d'.drop (k + 1))) := Lib.hid (by rw [← hsw.out, Hdrop.out])
          clear hsw
          cases hsn : sameNext (key, top, step, li) (d'.drop (k + 1)) with
          | true =>
            have Hs : Hid (left ++ sweep n0 n1 ins lo (d'.drop (k + 1)) = minusS l m) := Lib.hid (by rw [Hsw.out, sweep, if_pos hsn, Hn0.out, Hn1.out])
            clear hsn
            go_wp2
            go_roundw
            case rel => exact ⟨k + 1, left, lo, ins, n0, n1, by omega, by go_num, rfl, rfl, Hown3.out, Hst3.out, by omega, by omega, by omega, by omega, by omega, Hs⟩
            case measure => simp [intOf]; omega
          | false =>
            have Hs : Hid (minusS l m = left ++ ((if ins && !(nowB n0 n1) then [(if nowB n0 n1 && !ins then key else lo, key)] else []) ++ sweep n0 n1 (nowB n0 n1) (if nowB n0 n1 && !ins then key else lo) (d'.drop (k + 1)))) := Lib.hid (by
              rw [Hsw.out, sweep, if_neg (by rw [hsn]; simp), ← Hn0.out, ← Hn1.out])
            clear hsn Hsw
            by_cases h1 : 0 < n0
            · by_cases h2 : n1 = 0
              · have hnow : nowB n0 n1 = true := by unfold nowB; simp [h1, h2]
                have h2b : (n1 == 0) = true := by simpa using h2
                clear h2
                cases ins with
                | true =>
                  have Hs2 := Hs.out
                  rw [hnow] at Hs2
                  simp only [Bool.and_false, Bool.not_true, Bool.false_eq_true, ↓reduceIte, List.nil_append] at Hs2
                  have HS := Lib.hid Hs2.symm
                  clear Hs2 hnow Hs
                  go_wp2
                  go_roundw
                  case rel => exact ⟨k + 1, left, lo, true, n0, n1, by omega, by go_num, rfl, rfl, Hown3.out, Hst3.out, by omega, by omega, by omega, by omega, by omega, HS⟩
                  case measure => simp [intOf]; omega
                | false =>
                  have Hs2 := Hs.out
                  rw [hnow] at Hs2
                  simp only [Bool.and_true, Bool.and_false, Bool.not_true, Bool.not_false, Bool.false_eq_true, ↓reduceIte, List.nil_append] at Hs2
                  have HS := Lib.hid Hs2.symm
                  clear Hs2 hnow Hs
                  go_wp2
                  go_roundw
                  case rel => exact ⟨k + 1, left, key, true, n0, n1, by omega, by go_num, rfl, rfl, Hown3.out, Hst3.out, by omega, by omega, by omega, by omega, by omega, HS⟩
                  case measure => simp [intOf]; omega
              · have hnow : nowB n0 n1 = false := by unfold nowB; simp [h2]
                have h2b : (n1 == 0) = false := by simpa using h2
                clear h2
                cases ins with
                | true =>
                  have Hs2 := Hs.out
                  rw [hnow] at Hs2
                  simp only [Bool.and_true, Bool.and_false, Bool.not_true, Bool.not_false, Bool.false_eq_true, ↓reduceIte, List.nil_append, List.cons_append] at Hs2
                  have HS := Lib.hid Hs2.symm
                  clear Hs2 hnow Hs
                  go_wp2_with (at_builtin; refine wpList_append_own _ rfl _ _ 29 rfl w1.heap.size 38 i0 (.agg #[.string ⟨#[]⟩, .string ⟨#[]⟩]) 2 32 Tryz.underlying29 hi hz0 hz1 hz2 rfl (by decide) _ _ _ rfl (Hown3.out.alloc _) ⟨wc.heap.size, 0, none⟩ 1 1 [.string (Str lo), .string (Str key)] rfl rfl (cells_new' _ _ _ (by simp)) (by intro u hu; simp at hu; rcases hu with rfl | rfl <;> rfl) (by unfold maxLen; omega) (by omega) (by have := Hst3.out.size; simp; omega) ?_; intro v' w2 hown' hgrow _)
                  have Hown' := Lib.hid hown'
                  have Hst4 := Lib.hid (MinSt.grownBy (Hst3.out.alloc _) hgrow (fun q hq => (Hown3.out.lt q hq).1) (by omega))
                  clear hown' hgrow
                  go_wp2
                  go_roundw
                  case rel => exact ⟨k + 1, left ++ [(lo, key)], lo, false, n0, n1, by omega, by go_num, rfl, rfl, by rw [List.length_append, List.flatMap_append]; exact Hown'.out, Hst4.out, by omega, by omega, by omega, by omega, by simp; omega, Lib.hid (by rw [List.append_assoc]; exact HS.out)⟩
                  case measure => simp [intOf]; omega
                | false =>
                  have Hs2 := Hs.out
                  rw [hnow] at Hs2
                  simp only [Bool.and_true, Bool.not_false, Bool.false_eq_true, ↓reduceIte, List.nil_append] at Hs2
                  have HS := Lib.hid Hs2.symm
                  clear Hs2 hnow Hs
                  go_wp2
                  go_roundw
                  case rel => exact ⟨k + 1, left, lo, false, n0, n1, by omega, by go_num, rfl, rfl, Hown3.out, Hst3.out, by omega, by omega, by omega, by omega, by omega, HS⟩
                  case measure => simp [intOf]; omega
            · have hnow : nowB n0 n1 = false := by unfold nowB; simp; omega
              have h1b : n0 ≤ 0 := by omega
              cases ins with
              | true =>
                have Hs2 := Hs.out
                rw [hnow] at Hs2
                simp only [Bool.and_true, Bool.and_false, Bool.not_true, Bool.not_false, Bool.false_eq_true, ↓reduceIte, List.nil_append, List.cons_append] at Hs2
                have HS := Lib.hid Hs2.symm
                clear Hs2 hnow Hs
                go_wp2_with (at_builtin; refine wpList_append_own _ rfl _ _ 29 rfl w1.heap.size 38 i0 (.agg #[.string ⟨#[]⟩, .string ⟨#[]⟩]) 2 32 Tryz.underlying29 hi hz0 hz1 hz2 rfl (by decide) _ _ _ rfl (Hown3.out.alloc _) ⟨wc.heap.size, 0, none⟩ 1 1 [.string (Str lo), .string (Str key)] rfl rfl (cells_new' _ _ _ (by simp)) (by intro u hu; simp at hu; rcases hu with rfl | rfl <;> rfl) (by unfold maxLen; omega) (by omega) (by have := Hst3.out.size; simp; omega) ?_; intro v' w2 hown' hgrow _)
                have Hown' := Lib.hid hown'
                have Hst4 := Lib.hid (MinSt.grownBy (Hst3.out.alloc _) hgrow (fun q hq => (Hown3.out.lt q hq).1) (by omega))
                clear hown' hgrow
                go_wp2
                go_roundw
                case rel => exact ⟨k + 1, left ++ [(lo, key)], lo, false, n0, n1, by omega, by go_num, rfl, rfl, by rw [List.length_append, List.flatMap_append]; exact Hown'.out, Hst4.out, by omega, by omega, by omega, by omega, by simp; omega, Lib.hid (by rw [List.append_assoc]; exact HS.out)⟩
                case measure => simp [intOf]; omega
              | false =>
                have Hs2 := Hs.out
                rw [hnow] at Hs2
                simp only [Bool.and_true, Bool.not_false, Bool.false_eq_true, ↓reduceIte, List.nil_append] at Hs2
                have HS := Lib.hid Hs2.symm
                clear Hs2 hnow Hs
                go_wp2
                go_roundw
                case rel => exact ⟨k + 1, left, lo, false, n0, n1, by omega, by go_num, rfl, rfl, Hown3.out, Hst3.out, by omega, by omega, by omega, by omega, by omega, HS⟩
                case measure => simp [intOf]; omega
    · obtain rfl : k = d'.length := by omega
      have Hfin2 : Hid (left = minusS l m) := Lib.hid (by have := hsw.out; rw [List.drop_length, sweep, List.append_nil] at this; exact this)
      have Hown := Lib.hid hown
      have Hst := Lib.hid hst
      clear hown hst hsw
      go_wp2
      go_ret
      refine ⟨_, rfl, ?_, Hst.out.bel⟩
      rw [← Hfin2.out]
      refine ⟨Hown.out.1, ?_⟩
      rcases Hown.out.2 with h | ⟨g, cp, cur, h2, h3, h4⟩
      · exact .inl h
      · exact .inr ⟨g, cp, cur, h2, by omega, h4⟩
set_option maxHeartbeats 1000000 in
theorem norm_w (v0 : Value) (l : List Sp) (w : World) (h0 : IsSpans w v0 l) (hl : l.length ≤ 1000) :
    Calls Tryz.prog 91 #[v0] w fun e w' => ∃ v, e = .returned v ∧ w'.ownsRow w.heap.size 38 2 v (normS l).length ((normS l).flatMap encS) ∧ Below w.heap.size w w' := by
  have hm := minus_w v0 (.slice none 0 0) l [] w h0 (IsSpans.nil w 0 (by unfold maxLen; omega)) hl (by simp)
  obtain ⟨_, _, cap0, p0, rfl, _⟩ := h0.form
  have Hm := Lib.hid hm
  clear hm h0
  go_enter Tryz.func91, Tryz.ntmps91
  go_wp2_with (go_at_call 93; refine Hm.out.mono ?_; rintro e w1 ⟨v, rfl, ho, hb⟩)
  go_ret
  exact ⟨v, rfl, ho, hb⟩

end Go.Proofs.YtjncehkldhkobaaGreat

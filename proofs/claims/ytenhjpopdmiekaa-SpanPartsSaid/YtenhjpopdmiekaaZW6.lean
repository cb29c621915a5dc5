/-
  Walks: the ends of spans, gathered and sorted.
-/
import Derived.Test.YtenhjpopdmiekaaZW5
import Derived.OwnWalk
import Derived.Test.YtenhjpopdmiekaaSh2
namespace Go.Proofs.Ytenhjpopdmiekaa
open Go.RowKit Go.Sort
set_option linter.unusedVariables false

theorem infoE : (Try.prog.info? 51).map (fun i => (i.zero, i.size, i.bytes)) = some (some (.agg #[.string ⟨#[]⟩, .bool false, .int .i64 0, .int .i64 0]), 4, 40) := by kernel_rfl
theorem infoS : (Try.prog.info? 29).map (fun i => (i.zero, i.size, i.bytes)) = some (some (.agg #[.string ⟨#[]⟩, .string ⟨#[]⟩]), 2, 32) := by kernel_rfl
theorem infoStr : (Try.prog.info? 9).map (fun i => (i.zero, i.size, i.bytes)) = some (some (.string ⟨#[]⟩), 1, 16) := by kernel_rfl

theorem owns_below {w w' : World} {base : Nat} {e : TypeId} {size : Nat} {v : Value} {n : Nat} {xs : List Value} (h : w.ownsRow base e size v n xs) (hb : Below w.heap.size w w') : w'.ownsRow base e size v n xs := by
  refine ⟨h.1, ?_⟩
  rcases h.2 with h2 | ⟨g, cap, cur, h2, h3, h4, h5⟩
  · exact .inl h2
  · exact .inr ⟨g, cap, cur, h2, h3, by rw [hb.block g (by rw [Array.getElem?_eq_some_iff] at h4; exact h4.1)]; exact h4, h5⟩
theorem cells_new (W : World) (cs : List Value) (T : TypeId) : ∀ j u, cs[j]? = some u → (W.alloc (.cells cs.toArray T)).cell? ((⟨W.heap.size, 0, none⟩ : Addr).add j) = some u := by
  intro j u hj
  have : (⟨W.heap.size, 0, none⟩ : Addr).add j = ⟨W.heap.size, j, none⟩ := by unfold Addr.add; split <;> simp_all
  rw [this, World.cell?_alloc_new]
  simpa using hj
theorem cells_new' {n : Nat} (W : World) (cs : List Value) (T : TypeId) (hn : n = W.heap.size) : ∀ j u, cs[j]? = some u → (W.alloc (.cells cs.toArray T)).cell? ((⟨n, 0, none⟩ : Addr).add j) = some u := by
  subst hn; exact cells_new W cs T
/-- The ends of one span of list i. -/
def endsOf (i : Int) (s : Sp) : List Ev := if emptyB s then [] else [(s.1, false, 1, i), (s.2, s.2.isEmpty, -1, i)]
theorem evs_snoc (i : Int) (l : List Sp) (s : Sp) : evs i (l ++ [s]) = evs i l ++ endsOf i s := by
  rw [evs_append]; unfold evs endsOf; simp
theorem evs_take (i : Int) (l : List Sp) (k : Nat) (h : k < l.length) : evs i (l.take (k + 1)) = evs i (l.take k) ++ endsOf i l[k] := by
  rw [List.take_add_one, List.getElem?_eq_getElem h]; exact evs_snoc i _ _

/-- Both ends of a span, made and kept apart. -/
structure TwoEnds (B : Nat) (w wx : World) (x y : Nat) (c d : Array Value) : Prop where
  one : Blk wx x 51 c
  two : Blk wx y 51 d
  ne : x ≠ y
  lo : B ≤ x
  hi : B ≤ y
  bel : Below B w wx
theorem TwoEnds.new1 {B : Nat} {w W : World} {c d : Array Value} (h : Below B w W) (hB : B ≤ W.heap.size) : TwoEnds B w ((W.alloc (.cells c 51)).alloc (.cells d 51)) W.heap.size (W.heap.size + 1) c d :=
  ⟨(Blk.new _ _ _).alloc _, Blk.new' _ _ _ (by simp), by omega, hB, by omega, (h.alloc hB _).alloc (by simp; omega) _⟩
theorem TwoEnds.new2 {B : Nat} {w W : World} {c d : Array Value} (h : Below B w W) (hB : B ≤ W.heap.size) : TwoEnds B w ((W.alloc (.cells d 51)).alloc (.cells c 51)) (W.heap.size + 1) W.heap.size c d :=
  ⟨Blk.new' _ _ _ (by simp), (Blk.new _ _ _).alloc _, by omega, by omega, hB, (h.alloc hB _).alloc (by simp; omega) _⟩
theorem TwoEnds.mix1 {B : Nat} {w W : World} {x : Nat} {z0 z1 z2 z3 c0 c1 c2 c3 : Value} {d : Array Value} (h : Below B w W) (hB : B ≤ W.heap.size) (hx : Blk W x 51 #[z0, z1, z2, z3]) (hBx : B ≤ x) :
    TwoEnds B w (((((W.setCell ⟨x, 0, none⟩ c0).setCell ⟨x, 1, none⟩ c1).setCell ⟨x, 2, none⟩ c2).setCell ⟨x, 3, none⟩ c3).alloc (.cells d 51)) x W.heap.size #[c0, c1, c2, c3] d :=
  ⟨(hx.set4 c0 c1 c2 c3).alloc _, Blk.new' _ _ _ (by simp), Nat.ne_of_lt hx.lt, hBx, hB, (below4 h x hBx c0 c1 c2 c3).alloc (by simp; omega) _⟩
theorem TwoEnds.mix2 {B : Nat} {w W : World} {y : Nat} {z0 z1 z2 z3 d0 d1 d2 d3 : Value} {c : Array Value} (h : Below B w W) (hB : B ≤ W.heap.size) (hy : Blk W y 51 #[z0, z1, z2, z3]) (hBy : B ≤ y) :
    TwoEnds B w (((((W.setCell ⟨y, 0, none⟩ d0).setCell ⟨y, 1, none⟩ d1).setCell ⟨y, 2, none⟩ d2).setCell ⟨y, 3, none⟩ d3).alloc (.cells c 51)) W.heap.size y c #[d0, d1, d2, d3] :=
  ⟨Blk.new' _ _ _ (by simp), (hy.set4 d0 d1 d2 d3).alloc _, Nat.ne_of_gt hy.lt, hB, hBy, (below4 h y hBy d0 d1 d2 d3).alloc (by simp; omega) _⟩
theorem TwoEnds.old {B : Nat} {w W : World} {x y : Nat} {z0 z1 z2 z3 y0 y1 y2 y3 c0 c1 c2 c3 d0 d1 d2 d3 : Value} (h : Below B w W) (hx : Blk W x 51 #[z0, z1, z2, z3]) (hy : Blk W y 51 #[y0, y1, y2, y3]) (hne : x ≠ y) (hBx : B ≤ x) (hBy : B ≤ y) :
    TwoEnds B w ((((((((W.setCell ⟨x, 0, none⟩ c0).setCell ⟨x, 1, none⟩ c1).setCell ⟨x, 2, none⟩ c2).setCell ⟨x, 3, none⟩ c3).setCell ⟨y, 0, none⟩ d0).setCell ⟨y, 1, none⟩ d1).setCell ⟨y, 2, none⟩ d2).setCell ⟨y, 3, none⟩ d3) x y #[c0, c1, c2, c3] #[d0, d1, d2, d3] :=
  ⟨(hx.set4 c0 c1 c2 c3).other4 hne d0 d1 d2 d3, (hy.other4 (Ne.symm hne) c0 c1 c2 c3).set4 d0 d1 d2 d3, hne, hBx, hBy, below4 (below4 h x hBx c0 c1 c2 c3) y hBy d0 d1 d2 d3⟩
/-- The ends of the first lists. -/
def accE (l m : List Sp) (k : Nat) : List Ev := (if 0 < k then evs 0 l else []) ++ (if 1 < k then evs 1 m else [])
theorem accE_step {w : World} {v0 v1 : Value} {l m : List Sp} {b : Nat} (h0 : IsSpans w v0 l) (h1 : IsSpans w v1 m) (hb0 : w.cell? ⟨b, 0, none⟩ = some v0) (hb1 : w.cell? ⟨b, 1, none⟩ = some v1)
    (hl : l.length ≤ 1000) (hm : m.length ≤ 1000) (k : Nat) (hk : k < 2) : ∃ v L, IsSpans w v L ∧ w.cell? ⟨b, k, none⟩ = some v ∧ L.length ≤ 1000 ∧ accE l m (k + 1) = accE l m k ++ evs k L ∧ (accE l m k).length ≤ 2000 := by
  have e := evs_length 0 l
  match k, hk with
  | 0, _ => exact ⟨v0, l, h0, hb0, hl, by simp [accE], by simp [accE]⟩
  | 1, _ => exact ⟨v1, m, h1, hb1, hm, by simp [accE], by simp [accE]; omega⟩

theorem swoE : Go.Sort.SWO (Go.Proofs.ltOf cmpE) where
  irrefl := ltE_irrefl
  trans := ltE_trans
  ntrans := ltE_ntrans
theorem flatE_len (l : List Ev) : (l.flatMap encE).length = l.length * 4 := by
  induction l with
  | nil => rfl
  | cons s l ih =>
    have e : (s :: l).flatMap encE = encE s ++ l.flatMap encE := rfl
    rw [e, List.length_append, ih]; simp [encE]; omega
theorem flatE_get (l : List Ev) (t : Nat) (h : t < l.length * 4) : (l.flatMap encE)[t]? = some ((encE l[t / 4]!)[t % 4]!) := by
  induction l generalizing t with
  | nil => simp at h
  | cons s l ih =>
    have e : (s :: l).flatMap encE = .string (Str s.1) :: .bool s.2.1 :: .int .i64 s.2.2.1 :: .int .i64 s.2.2.2 :: l.flatMap encE := rfl
    rw [e]
    by_cases h4 : t < 4
    · have h0 : t / 4 = 0 := by omega
      rw [h0]
      match t, h4 with
      | 0, _ => rfl
      | 1, _ => rfl
      | 2, _ => rfl
      | 3, _ => rfl
    · obtain ⟨u, rfl⟩ : ∃ u, t = u + 4 := ⟨t - 4, by omega⟩
      have h1 : (u + 4) / 4 = u / 4 + 1 := by omega
      have h2 : (u + 4) % 4 = u % 4 := by omega
      rw [h1, h2]
      simp only [List.length_cons] at h
      exact ih u (by omega)
theorem sorted_list (d : Array Ev) (h : SortedIn (Go.Proofs.ltOf cmpE) 0 d.size d) : SrtE d.toList := by
  have key : ∀ (l : List Ev), (∀ i j (hi : i < j) (hj : j < l.length), ltE l[j] (l[i]'(by omega)) = false) → SrtE l := by
    intro l
    induction l with
    | nil => intro _; trivial
    | cons e r ih =>
      intro h
      refine ⟨fun f hf => ?_, ih fun i j hi hj => ?_⟩
      · obtain ⟨i, hi, rfl⟩ := List.mem_iff_getElem.1 hf
        exact h 0 (i + 1) (by omega) (by simp; omega)
      · exact h (i + 1) (j + 1) (by omega) (by simp; omega)
  refine key _ fun i j hi hj => ?_
  have hj' : j < d.size := by simpa using hj
  have := h i j (Nat.zero_le _) hi hj'
  rw [getElem!_pos d j hj', getElem!_pos d i (by omega)] at this
  show Go.Proofs.ltOf cmpE (d.toList[j]) (d.toList[i]) = false
  simpa using this
theorem perm_list {d d' : Array Ev} (h : PermIn 0 d.size d d') : d'.toList.Perm d.toList ∧ d'.size = d.size := by
  obtain ⟨h1, _, h3⟩ := h
  refine ⟨?_, h1⟩
  have e1 : d.extract 0 d.size = d := by simp
  have e2 : d'.extract 0 d.size = d' := by rw [← h1]; simp
  rw [e1, e2] at h3
  exact h3
set_option maxHeartbeats 1000000 in
theorem sort_w (d : List Ev) (v : Value) (base : Nat) (w : World) (hown : w.ownsRow base 51 4 v d.length (d.flatMap encE)) (hd : d.length ≤ 4000) :
    Calls Try.prog 45 #[v, .func (.func 37) #[] #[]] w fun e w' => e = .returned (.tuple #[]) ∧ ∃ d', SrtE d' ∧ d'.Perm d ∧ w'.ownsRow base 51 4 v d'.length (d'.flatMap encE) ∧ Below base w w' := by
  by_cases h0 : d = []
  · subst h0
    obtain ⟨p, cap, rfl⟩ : ∃ p cap, v = .slice p 0 cap := by
      rcases hown.2 with ⟨rfl, _⟩ | ⟨g, cap, cur, rfl, _⟩
      · exact ⟨_, _, rfl⟩
      · exact ⟨_, _, rfl⟩
    have h := AnyF.slices_SortFunc_none { Try.sortEv with } p cap (.func (.func 37) #[] #[]) w
    change Calls Try.prog 45 _ _ _ at h
    refine h.mono fun e w' ⟨he, hw⟩ => ⟨he, [], trivial, List.Perm.refl _, ?_, ?_⟩
    · rw [hw]; exact hown
    · rw [hw]; exact Below.refl _ _
  · rcases hown.2 with ⟨rfl, h1⟩ | ⟨g, cap, cur, rfl, hb, hg, hn, hm, hsz, htk⟩
    · exact absurd (List.length_eq_zero_iff.1 h1) h0
    · have hgl : g < w.heap.size := by rw [Array.getElem?_eq_some_iff] at hg; exact hg.1
      have hda : d = d.toArray.toList := rfl
      have hH : HoldsK encE 4 w g 0 d.toArray := by
        intro j hj
        rw [size_flatK] at hj
        have hj' : j < d.length * 4 := by simpa using hj
        rw [get_flatK _ _ _ _ hj]
        have hcell : w.cell? ⟨g, 0 + j, none⟩ = some ((encE d[j / 4]!)[j % 4]!) := by
          rw [Nat.zero_add]
          unfold World.cell?
          simp only
          rw [hg]
          show cur[j]? = _
          have h2 := flatE_get d j hj'
          rw [← htk, List.getElem?_take, if_pos hj', Array.getElem?_toList] at h2
          exact h2
        refine ⟨?_, ?_⟩
        · rw [hcell]
          have : d.toArray[j / 4]! = d[j / 4]! := by simp
          rw [this]; rfl
        · unfold World.frozen?; simp only; rw [hg]; simp
      have eg : ∀ args w, (callFunc 37 args).run Try.prog w = .ok (.enter 37 args) w := enters_of Try.func37 (by kernel_rfl) rfl
      have hcon := AnyQ.slices_SortFunc Try.sortEv 4 Try.isAgg51 Try.sizeOf51 encE (fun _ => rfl) (fun x v hv => by simp [encE] at hv; rcases hv with rfl | rfl | rfl | rfl <;> rfl) cmpE swoE 37 #[] g 0 cap d.toArray w eg (fun _ _ _ _ x y => compare_w x y _) hH hgl (by simp; omega)
      change Calls Try.prog 45 _ _ _ at hcon
      refine hcon.mono fun e w' ⟨he, d', n, os, hp, hs, hw⟩ => ?_
      obtain ⟨p1, p2⟩ := perm_list hp
      have p2' : d'.size = d.length := by simpa using p2
      have pl : d'.toList.length = d.length := (Array.length_toList (xs := d')).trans p2'
      have hblk : w'.heap[g]? = some (.cells (putCells id 0 (flatK encE 4 d') cur) 51 (0, 0)) := by
        rw [hw]
        show ((w.heap.modify g (onCells (putCells id 0 (flatK encE 4 d')))) ++ os)[g]? = _
        rw [Array.getElem?_append_left (by simpa using hgl), Array.getElem?_modify, if_pos rfl, hg]
        rfl
      have hoth : ∀ k, k ≠ g → k < w.heap.size → w'.heap[k]? = w.heap[k]? := by
        intro k hk hkl
        rw [hw]
        show ((w.heap.modify g (onCells (putCells id 0 (flatK encE 4 d')))) ++ os)[k]? = _
        rw [Array.getElem?_append_left (by simpa using hkl), Array.getElem?_modify, if_neg (Ne.symm hk)]
      refine ⟨he, d'.toList, sorted_list d' (by rw [p2]; exact hs), p1, ⟨by rw [flatE_len], .inr ⟨g, cap, _, by rw [pl], hb, hblk, by rw [pl]; exact hn, hm, by simp [putCells]; exact hsz, ?_⟩⟩, ?_⟩
      · apply List.ext_getElem?
        intro j
        rw [List.getElem?_take]
        by_cases hj : j < d'.toList.length * 4
        · rw [if_pos hj, flatE_get _ _ hj, Array.getElem?_toList]
          have hj2 : j < d.length * 4 := by rw [pl] at hj; exact hj
          have hjc : j < cur.size := by rw [hsz]; have := Nat.mul_le_mul_right 4 hn; omega
          have hjf : j < d'.size * 4 := by rw [p2']; exact hj2
          have : (putCells id 0 (flatK encE 4 d') cur)[j]? = some ((flatK encE 4 d')[j]!) := by
            unfold putCells
            rw [Array.getElem?_mapIdx, Array.getElem?_eq_getElem hjc]
            simp only [Option.map_some]
            rw [if_pos ⟨Nat.zero_le _, by rw [size_flatK]; omega⟩]
            rfl
          rw [this, get_flatK _ _ _ _ hjf]
          have hq : j / 4 < d'.size := by omega
          have : d'.toList[j / 4]! = d'[j / 4]! := by rw [getElem!_pos d' (j / 4) hq, getElem!_pos d'.toList (j / 4) (by simpa using hq)]; simp
          rw [this]
        · rw [if_neg hj]
          rw [List.getElem?_eq_none (by rw [flatE_len]; omega)]
      · refine ⟨by rw [hw]; rfl, by rw [hw]; rfl, by rw [hw]; rfl, ?_, fun k hk => hoth k (by omega) (by omega)⟩
        rw [hw]
        show w.heap.size ≤ ((w.heap.modify g (onCells (putCells id 0 (flatK encE 4 d')))) ++ os).size
        simp

set_option maxRecDepth 100000 in
set_option maxHeartbeats 4000000 in
theorem ends_w (b : Nat) (v0 v1 : Value) (l m : List Sp) (w : World) (h0 : IsSpans w v0 l) (h1 : IsSpans w v1 m) (hb : w.cell? ⟨b, 0, none⟩ = some v0 ∧ w.cell? ⟨b, 1, none⟩ = some v1) (hbl : b < w.heap.size)
    (hl : l.length ≤ 1000) (hm : m.length ≤ 1000) :
    Calls Try.prog 42 #[.slice (some ⟨b, 0, none⟩) 2 2] w fun e w' => ∃ v d', e = .returned v ∧ SrtE d' ∧ d'.Perm (evs 0 l ++ evs 1 m) ∧ w'.ownsRow w.heap.size 51 4 v d'.length (d'.flatMap encE) ∧ Below w.heap.size w w' := by
  obtain ⟨hb0, hb1⟩ := hb
  have H0 := Lib.hid h0
  have H1 := Lib.hid h1
  have mixed := mixedA
  clear h0 h1
  obtain ⟨i0, hi, hz0, hz1, hz2⟩ := info_parts infoE
  go_enter Try.func42, Try.ntmps42
  go_wp2
  go_loopw [3, 12] (fun v i wr => ∃ k : Nat, k ≤ 2 ∧ i = .int .i64 k ∧ wr.ownsRow w.heap.size 51 4 v (accE l m k).length ((accE l m k).flatMap encE) ∧ Below w.heap.size w wr) (fun _ i _ => 2 - (intOf i).toNat)
  case atStart => exact ⟨0, by omega, rfl, World.ownsRow_nil _ _ _ _, Below.refl _ _⟩
  case round =>
    obtain ⟨k, hk, rfl, hown, hnx⟩ := hrel
    by_cases hlt : k < 2
    · obtain ⟨vk, L, hL, hck, hLl, hacc, hal⟩ := accE_step H0.out H1.out hb0 hb1 hl hm k hlt
      have hckr : wr.cell? ⟨b, k, none⟩ = some vk := (hnx.cell (by exact hbl)).trans hck
      have HL := Lib.hid hL
      have Hacc := Lib.hid hacc
      obtain ⟨bb, off, cap, a, rfl, hlc, hcm, haa, hcells⟩ := hL.form
      unfold maxLen at hcm
      have Ha := Lib.hid haa
      have HC := Lib.hid hcells
      have Hown := Lib.hid hown
      have Hnx := Lib.hid hnx
      clear hL hck hb0 hb1 haa hcells hacc hown hnx
      have hdk : decide ((k : Int) < 2) = true := by simp; omega
      go_wp2
      go_loopw [3, 19] (fun v i wz => ∃ j : Nat, j ≤ L.length ∧ i = .int .i64 j ∧ wz.ownsRow w.heap.size 51 4 v (accE l m k ++ evs k (L.take j)).length ((accE l m k ++ evs k (L.take j)).flatMap encE) ∧ Below w.heap.size w wz) (fun _ i _ => L.length - (intOf i).toNat)
      case atStart => exact ⟨0, Nat.zero_le _, rfl, by simpa [evs] using Hown.out, Hnx.out⟩
      case round =>
        obtain ⟨j, hj, rfl, hown, hnx⟩ := hrel
        by_cases hjl : j < L.length
        · obtain ⟨rfl, d0, d1⟩ := HC.out j hjl
          have hbb := (Ha.out (by rintro rfl; simp at hjl)).2
          have c0 := (hnx.cell (p := ⟨bb, off + j * 2, none⟩) (by exact hbb)).trans d0
          have c1 := (hnx.cell (p := ⟨bb, off + j * 2 + 1, none⟩) (by exact hbb)).trans d1
          have Htake := Lib.hid (evs_take k L j hjl)
          have hel := evs_length k (L.take j)
          rw [List.length_take] at hel
          generalize hs : L[j] = s at *
          obtain ⟨sl, sh⟩ := s
          have he := fun wx => empty_w sl sh wx
          have hlo := fun wx => low_w sl sh wx
          have hhi := fun wx => high_w sl sh wx
          have Hown2 := Lib.hid hown
          have Hnx2 := Lib.hid hnx
          have Hel := Lib.hid hel
          clear d0 d1 hs hown hnx hel
          cases hem : emptyB (sl, sh) with
          | true =>
            rw [hem] at he
            have H := Lib.hid (show endsOf k (sl, sh) = [] from by unfold endsOf; rw [hem]; rfl)
            clear hem hlo hhi
            go_wp2_with (go_at_call 19; refine (he _).mono ?_; rintro e w1 ⟨rfl, hg1⟩)
            have bel1 : Hid (Below wr.heap.size wr w1) := Lib.hid (Below.trans ((Below.refl wr.heap.size wr).alloc (Nat.le_refl _) _) (hg1.below (by simp)))
            clear hg1
            go_wp2
            go_roundw
            case rel => exact ⟨j + 1, by omega, by go_num, by rw [Htake.out, H.out, List.append_nil]; exact owns_below Hown2.out bel1.out, Below.next Hnx2.out (Nat.le_refl _) bel1.out⟩
            case measure => simp [intOf]; omega
          | false =>
            rw [hem] at he
            have H := Lib.hid (show endsOf k (sl, sh) = [(sl, false, 1, (k : Int)), (sh, sh.isEmpty, -1, (k : Int))] from by unfold endsOf; rw [hem]; rfl)
            clear hem
            go_wp2_with (go_at_call 19; refine (he _).mono ?_; rintro e w1 ⟨rfl, hg1⟩; have hbw := hg1.below (Nat.le_refl _); have sB := Blk.below (Blk.new _ _ _) hbw (by simp); have hsz1 : wr.heap.size < w1.heap.size := sB.lt; have HB1 := Lib.hid (Below.next ((Below.refl wr.heap.size wr).alloc (Nat.le_refl _) (.cells #[.string (Str sl), .string (Str sh)] 29)) (Nat.le_refl _) hbw); have s0 : w1.cell? ⟨wr.heap.size, 0, none⟩ = some (.string (Str sl)) := sB.c0 0 _ rfl; have s1 : w1.cell? ⟨wr.heap.size, 1, none⟩ = some (.string (Str sh)) := sB.c0 1 _ rfl; have HsB := Lib.hid sB; clear hg1 hbw sB he)
            go_outline
            go_cut [8, 9] (fun s8 s9 wx => ∃ x y, s8 = .pointer (some ⟨x, 0, none⟩) ∧ s9 = .pointer (some ⟨y, 0, none⟩) ∧ TwoEnds wr.heap.size wr wx x y #[.string (Str sl), .bool false, .int .i64 1, .int .i64 0] #[.string (Str sh), .bool sh.isEmpty, .int .i64 (-1), .int .i64 0])
            case first =>
              go_region_held3 (fun wq => wq.cell? ⟨wr.heap.size, 0, none⟩ = some (.string (Str sl)) ∧ wq.cell? ⟨wr.heap.size, 1, none⟩ = some (.string (Str sh))) (((try dsimp only); (refine ⟨?_, ?_⟩) <;> ((repeat (first | with_reducible assumption | rw [World.cell?_drew] | rw [World.cell?_alloc_lt _ _ _ (by first | omega | (dsimp only; omega) | (simp only [World.size_alloc, World.size_drew, World.size_setCell]; omega))] | rw [World.cell?_setCell_far _ _ _ _ (by first | omega | (dsimp only; omega) | (simp only [World.size_alloc, World.size_drew, World.size_setCell]; omega))])); done)))
                (first
                  | (go_at_call 38; refine (hlo _).mono ?_; rintro e w2 ⟨rfl, hg2⟩; obtain ⟨q0, q1⟩ := Grown.keepS (b := wr.heap.size) (u := .string (Str sl)) (v := .string (Str sh)) hg2 (by with_reducible assumption); have n2 : w1.heap.size ≤ w2.heap.size := Nat.le_trans (by first | exact Nat.le_refl _ | (simp only [World.size_alloc, World.size_drew]; omega)) (hg2.below (Nat.le_refl _)).size; have NB2 : Hid (Below wr.heap.size wr w2) := Lib.hid (Below.trans (by repeat (first | with_reducible exact HB1.out | with_reducible refine Below.drew ?_ | with_reducible refine Below.alloc ?_ ?_ _ | omega | (simp only [World.size_drew, World.size_alloc]; omega))) (hg2.below (by first | omega | (simp only [World.size_drew, World.size_alloc]; omega)))); (try (have z1 : Blk w2 w1.heap.size 51 #[.string ⟨#[]⟩, .bool false, .int .i64 0, .int .i64 0] := Grown.blk hg2 (Blk.new w1.drew 51 #[.string ⟨#[]⟩, .bool false, .int .i64 0, .int .i64 0]); obtain ⟨a0, a1, a2, a3, a4, a5, a6, a7⟩ := Blk.four z1; have z1n := Nat.ne_of_lt z1.lt; have z1l := z1.lt; have Z1 := Lib.hid z1; clear z1)); (try (have z1 : Blk w2 w1.heap.size 51 #[.string ⟨#[]⟩, .bool false, .int .i64 0, .int .i64 0] := Grown.blk hg2 ((Blk.new w1.drew 51 #[.string ⟨#[]⟩, .bool false, .int .i64 0, .int .i64 0]).alloc _); have z2 : Blk w2 (w1.heap.size + 1) 51 #[.string ⟨#[]⟩, .bool false, .int .i64 0, .int .i64 0] := Grown.blk hg2 (Blk.new' (World.alloc w1.drew _) 51 #[.string ⟨#[]⟩, .bool false, .int .i64 0, .int .i64 0] (by simp)); obtain ⟨a0, a1, a2, a3, a4, a5, a6, a7⟩ := Blk.four z1; obtain ⟨b0, b1, b2, b3, b4, b5, b6, b7⟩ := Blk.four z2; have z1n := Nat.ne_of_lt z1.lt; have z1l := z1.lt; have Z1 := Lib.hid z1; have z2n := Nat.ne_of_lt z2.lt; have z2l := z2.lt; have Z2 := Lib.hid z2; clear z1 z2)); clear hg2)
                  | (go_at_call 36; refine (hhi _).mono ?_; rintro e w3 ⟨rfl, hg3⟩; obtain ⟨q0, q1⟩ := Grown.keepS (b := wr.heap.size) (u := .string (Str sl)) (v := .string (Str sh)) hg3 (by with_reducible assumption); have n3 : w2.heap.size ≤ w3.heap.size := Nat.le_trans (by first | exact Nat.le_refl _ | (simp only [World.size_alloc, World.size_drew]; omega)) (hg3.below (Nat.le_refl _)).size; have NB3 : Hid (Below wr.heap.size wr w3) := Lib.hid (Below.trans (by repeat (first | with_reducible exact NB2.out | with_reducible refine Below.drew ?_ | with_reducible refine Below.alloc ?_ ?_ _ | omega | (simp only [World.size_drew, World.size_alloc]; omega))) (hg3.below (by first | omega | (simp only [World.size_drew, World.size_alloc]; omega)))); (try (have y1 := Grown.blk hg3 Z1.out; obtain ⟨c0, c1, c2, c3, c4, c5, c6, c7⟩ := Blk.four y1; obtain ⟨g0, g1, g2, g3, g4, g5, g6, g7⟩ := Blk.four (y1.alloc (.cells #[.string ⟨#[]⟩, .bool false, .int .i64 0, .int .i64 0] 51)); have y1n := Nat.ne_of_lt y1.lt; have y1l := y1.lt; have Y1 := Lib.hid y1; clear y1)); (try (have y1 := Grown.blk hg3 (Z1.out.alloc _); obtain ⟨c0, c1, c2, c3, c4, c5, c6, c7⟩ := Blk.four y1; obtain ⟨g0, g1, g2, g3, g4, g5, g6, g7⟩ := Blk.four (y1.alloc (.cells #[.string ⟨#[]⟩, .bool false, .int .i64 0, .int .i64 0] 51)); have y1n := Nat.ne_of_lt y1.lt; have y1l := y1.lt; have Y1 := Lib.hid y1; clear y1)); (try (have y2 := Grown.blk hg3 Z2.out; obtain ⟨d0, d1, d2, d3, d4, d5, d6, d7⟩ := Blk.four y2; obtain ⟨g0, g1, g2, g3, g4, g5, g6, g7⟩ := Blk.four (y2.alloc (.cells #[.string ⟨#[]⟩, .bool false, .int .i64 0, .int .i64 0] 51)); have y2n := Nat.ne_of_lt y2.lt; have y2l := y2.lt; have Y2 := Lib.hid y2; clear y2)); (try (have y3 : Blk w3 w2.heap.size 51 #[.string ⟨#[]⟩, .bool false, .int .i64 0, .int .i64 0] := Grown.blk hg3 (Blk.new w2 51 #[.string ⟨#[]⟩, .bool false, .int .i64 0, .int .i64 0]); obtain ⟨e0, e1, e2, e3, e4, e5, e6, e7⟩ := Blk.four y3; obtain ⟨g0, g1, g2, g3, g4, g5, g6, g7⟩ := Blk.four (y3.alloc (.cells #[.string ⟨#[]⟩, .bool false, .int .i64 0, .int .i64 0] 51)); have y3n := Nat.ne_of_lt y3.lt; have y3l := y3.lt; have Y3 := Lib.hid y3; clear y3)); (try (have y3 : Blk w3 w2.heap.size 51 #[.string ⟨#[]⟩, .bool false, .int .i64 0, .int .i64 0] := Grown.blk hg3 ((Blk.new w2 51 #[.string ⟨#[]⟩, .bool false, .int .i64 0, .int .i64 0]).alloc _); have y4 : Blk w3 (w2.heap.size + 1) 51 #[.string ⟨#[]⟩, .bool false, .int .i64 0, .int .i64 0] := Grown.blk hg3 (Blk.new' (World.alloc w2 _) 51 #[.string ⟨#[]⟩, .bool false, .int .i64 0, .int .i64 0] (by simp)); obtain ⟨e0, e1, e2, e3, e4, e5, e6, e7⟩ := Blk.four y3; obtain ⟨f0, f1, f2, f3, f4, f5, f6, f7⟩ := Blk.four y4; obtain ⟨g0, g1, g2, g3, g4, g5, g6, g7⟩ := Blk.four (y3.alloc (.cells #[.string ⟨#[]⟩, .bool false, .int .i64 0, .int .i64 0] 51)); have y3n := Nat.ne_of_lt y3.lt; have y3l := y3.lt; have Y3 := Lib.hid y3; obtain ⟨g0, g1, g2, g3, g4, g5, g6, g7⟩ := Blk.four (y4.alloc (.cells #[.string ⟨#[]⟩, .bool false, .int .i64 0, .int .i64 0] 51)); have y4n := Nat.ne_of_lt y4.lt; have y4l := y4.lt; have Y4 := Lib.hid y4; clear y3 y4)); clear hg3))
              all_goals (go_wp2_with fail; go_meet)
              all_goals refine ⟨_, _, rfl, rfl, ?_⟩
              all_goals first
                | with_reducible exact TwoEnds.new1 NB3.out (by omega)
                | with_reducible exact TwoEnds.new2 NB3.out (by omega)
                | with_reducible exact TwoEnds.mix1 NB3.out (by omega) Y1.out (by omega)
                | with_reducible exact TwoEnds.mix2 NB3.out (by omega) Y1.out (by omega)
                | with_reducible exact TwoEnds.mix1 NB3.out (by omega) Y2.out (by omega)
                | with_reducible exact TwoEnds.mix2 NB3.out (by omega) Y2.out (by omega)
                | with_reducible exact TwoEnds.mix1 NB3.out (by omega) Y3.out (by omega)
                | with_reducible exact TwoEnds.mix2 NB3.out (by omega) Y3.out (by omega)
                | with_reducible exact TwoEnds.mix1 NB3.out (by omega) Y4.out (by omega)
                | with_reducible exact TwoEnds.mix2 NB3.out (by omega) Y4.out (by omega)
                | with_reducible exact TwoEnds.old NB3.out Y1.out Y2.out (by omega) (by omega) (by omega)
                | with_reducible exact TwoEnds.old NB3.out Y1.out Y3.out (by omega) (by omega) (by omega)
                | with_reducible exact TwoEnds.old NB3.out Y1.out Y4.out (by omega) (by omega) (by omega)
                | with_reducible exact TwoEnds.old NB3.out Y2.out Y1.out (by omega) (by omega) (by omega)
                | with_reducible exact TwoEnds.old NB3.out Y2.out Y3.out (by omega) (by omega) (by omega)
                | with_reducible exact TwoEnds.old NB3.out Y2.out Y4.out (by omega) (by omega) (by omega)
                | with_reducible exact TwoEnds.old NB3.out Y3.out Y1.out (by omega) (by omega) (by omega)
                | with_reducible exact TwoEnds.old NB3.out Y3.out Y2.out (by omega) (by omega) (by omega)
                | with_reducible exact TwoEnds.old NB3.out Y3.out Y4.out (by omega) (by omega) (by omega)
                | with_reducible exact TwoEnds.old NB3.out Y4.out Y1.out (by omega) (by omega) (by omega)
                | with_reducible exact TwoEnds.old NB3.out Y4.out Y2.out (by omega) (by omega) (by omega)
                | with_reducible exact TwoEnds.old NB3.out Y4.out Y3.out (by omega) (by omega) (by omega)
            case rest =>
              obtain ⟨x, y, rfl, rfl, TE⟩ := hcut
              obtain ⟨a0, a1, a2, a3, a4, a5, a6, a7⟩ := Blk.four TE.one
              obtain ⟨b0, b1, b2, b3, b4, b5, b6, b7⟩ := Blk.four TE.two
              have hne := TE.ne
              have hne' := Ne.symm TE.ne
              have hxl := TE.one.lt
              have hyl := TE.two.lt
              have HTE := Lib.hid TE
              have Hxs := Lib.hid hxl
              clear TE s0 s1 hsz1 HB1 HsB hlo hhi
              go_wp2_with (first
                | (at_builtin; refine wpList_append_own _ rfl _ _ 57 rfl w.heap.size 51 i0 (.agg #[.string ⟨#[]⟩, .bool false, .int .i64 0, .int .i64 0]) 4 40 Try.underlying57 hi hz0 hz1 hz2 rfl (by decide) _ _ _ rfl (owns_below Hown2.out (((HTE.out.bel.setCell HTE.out.lo _).setCell HTE.out.hi _).alloc (by have := HTE.out.bel.size; simpa using this) _)) ⟨wc.heap.size, 0, none⟩ 2 2 [.string (Str sl), .bool false, .int .i64 1, .int .i64 k, .string (Str sh), .bool sh.isEmpty, .int .i64 (-1), .int .i64 k] rfl rfl (cells_new' _ _ _ (by simp)) (by intro u hu; simp at hu; rcases hu with rfl | rfl | rfl | rfl | rfl | rfl | rfl | rfl <;> rfl) (by simp; unfold maxLen; have := Hel.out; omega) (by simp; have := Hel.out; omega) (by have h1 := HTE.out.bel.size; have h2 := Hnx2.out.size; simp; omega) ?_; intro v' w2 hown' hgrow _))
              have e2 : accE l m k ++ evs k (L.take (j + 1)) = (accE l m k ++ evs k (L.take j)) ++ [(sl, false, 1, (k : Int)), (sh, sh.isEmpty, -1, (k : Int))] := by rw [Htake.out, H.out, List.append_assoc]
              have q1 : w.heap.size ≤ wr.heap.size := Hnx2.out.size
              have q2 : wr.heap.size ≤ x := HTE.out.lo
              have q3 : wr.heap.size ≤ y := HTE.out.hi
              have q4 : wr.heap.size ≤ wc.heap.size := HTE.out.bel.size
              have r1 : Below w.heap.size w wc := Below.next Hnx2.out (Nat.le_refl _) HTE.out.bel
              have r2 := Below.grown (((r1.setCell (Nat.le_trans q1 q2) _).setCell (Nat.le_trans q1 q3) _).alloc (by simp; omega) _) hgrow (by simp; omega) (fun q hq => (Hown2.out.lt q hq).1)
              have bel2 := Lib.hid r2
              clear q1 q2 q3 q4 r1 r2
              have Hown' := Lib.hid hown'
              have He2 := Lib.hid e2
              clear hown' hgrow e2 a0 a1 a2 a3 a4 a5 a6 a7 b0 b1 b2 b3 b4 b5 b6 b7
              go_wp2
              go_roundw
              case rel => exact ⟨j + 1, by omega, by go_num, by rw [He2.out, List.length_append, List.flatMap_append]; exact Hown'.out, bel2.out⟩
              case measure => simp [intOf]; omega
        · obtain rfl : j = L.length := by omega
          have hown3 : Hid (wr.ownsRow w.heap.size 51 4 u3 (accE l m (k + 1)).length ((accE l m (k + 1)).flatMap encE)) := Lib.hid (by rw [Hacc.out]; rw [List.take_length] at hown; exact hown)
          have Hnx3 := Lib.hid hnx
          clear hown hnx
          go_wp2
          go_roundw
          case rel => exact ⟨k + 1, by omega, by go_num, hown3.out, Hnx3.out⟩
          case measure => simp [intOf]; omega
    · obtain rfl : k = 2 := by omega
      have hd : accE l m 2 = evs 0 l ++ evs 1 m := by simp [accE]
      rw [hd] at hown
      have hds : (evs 0 l ++ evs 1 m).length ≤ 4000 := by have h1 := evs_length 0 l; have h2 := evs_length 1 m; rw [List.length_append]; omega
      have Hs := Lib.hid (fun wx v hx => sort_w (evs 0 l ++ evs 1 m) v w.heap.size wx hx hds)
      have Hown := Lib.hid hown
      have Hnx := Lib.hid hnx
      clear hown hnx hd
      go_wp2_with (go_at_call 45; refine (Hs.out _ _ Hown.out).mono ?_; rintro e w1 ⟨rfl, d', hsrt, hprm, hown1, hbel1⟩)
      go_ret
      exact ⟨_, d', rfl, hsrt, hprm, hown1, Below.trans Hnx.out hbel1⟩

end Go.Proofs.Ytenhjpopdmiekaa

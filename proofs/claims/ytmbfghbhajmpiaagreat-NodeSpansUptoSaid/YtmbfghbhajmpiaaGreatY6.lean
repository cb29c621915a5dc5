/-
  Walks: the lists of the reader of nodes. Walks: nodes are read; Parse. Walks: Parse of package node.
-/
import Derived.Test.YtmbfghbhajmpiaaGreatY5
import Derived.Test.YtmbfghbhajmpiaaGreatNQJ
import Derived.Test.YtmbfghbhajmpiaaGreatRBA
namespace Go.Proofs.YtmbfghbhajmpiaaGreat
open Go.RowKit Go.Sort
set_option linter.unusedVariables false

def encI (x : Int) : List Value := [.int .i64 x]
def encT (x : Bs) : List Value := [.string (Str x)]
def encSm (s : Sm) : List Value := [.int .i64 s.1.1, .int .i64 s.1.2, .int .i64 s.2.1, .int .i64 s.2.2]
theorem infoI : (Tryz.prog.info? 3).map (fun i => (i.zero, i.size, i.bytes)) = some (some (.int .i64 0), 1, 8) := by kernel_rfl
theorem infoSm : (Tryz.prog.info? 52).map (fun i => (i.zero, i.size, i.bytes)) = some (some (.agg #[.int .i64 0, .int .i64 0, .int .i64 0, .int .i64 0]), 4, 32) := by kernel_rfl
theorem But.ext {b : Nat} {x y z : World} (h : But b x y) (k : Below x.heap.size y z) : But b x z :=
  ⟨k.os.trans h.os, k.tape.trans h.tape, k.output.trans h.output, Nat.le_trans h.size k.size, fun i hi hb => (k.block i hi).trans (h.block i hi hb)⟩
theorem own_but {w w' : World} {rb B size m : Nat} {T : TypeId} {v : Value} {xs : List Value} (h : w.ownsRow B T size v m xs) (hb : But rb w w') (hB : rb < B) : w'.ownsRow B T size v m xs := by
  refine ⟨h.1, ?_⟩
  rcases h.2 with h | ⟨g, cp, cur, h2, h3, h4, h5⟩
  · exact .inl h
  · exact .inr ⟨g, cp, cur, h2, h3, hb.blk (T := T) h4 (by omega), h5⟩
theorem own_alloc {w : World} {B size m : Nat} {T : TypeId} {v : Value} {xs : List Value} (h : w.ownsRow B T size v m xs) (o : Obj) : (w.alloc o).ownsRow B T size v m xs := h.alloc o
/-- What a list is read to. -/
def ListOut {α : Type} (C rb : Nat) (T : TypeId) (size : Nat) (enc : α → List Value) (r : List α × RS) (w : World) (e : Ending) (w' : World) : Prop :=
  ∃ v', e = .returned v' ∧ w'.ownsRow w.heap.size T size v' r.1.length (r.1.flatMap enc) ∧ RdN C w' rb r.2 ∧ But rb w w'

set_option maxRecDepth 100000 in
set_option maxHeartbeats 4000000 in
theorem nlistP_w (C rb k : Nat) (s : RS) (w : World) (h : RdN C w rb s) (hk : k < 4294967296) : Calls Tryz.prog 149 #[ptrV rb, .int .i64 k, .func (.func 151) #[ptrV rb] #[]] w (ListOut C rb 48 3 encP (listP pairR k [] s) w) := by
  obtain ⟨i0, hi, hz0, hz1, hz2⟩ := info_parts infoP
  have hrl := h.lt
  have HD := Lib.hid h
  clear h
  go_enter Tryz.func149, Tryz.ntmps149
  go_wp2
  go_loopw [7, 9] (fun v i wr => ∃ (j : Nat) (acc : List Pr) (s' : RS), j ≤ k ∧ i = .int .i64 j ∧ wr.ownsRow w.heap.size 48 3 v acc.length (acc.flatMap encP) ∧ RdN C wr rb s' ∧ But rb w wr ∧ acc.length ≤ j ∧ Hid (listP pairR k [] s = listP pairR (k - j) acc s')) (fun _ i _ => k - (intOf i).toNat)
  case atStart => exact ⟨0, [], s, Nat.zero_le _, rfl, World.ownsRow_nil _ _ _ _, HD.out, But.refl _ _, Nat.zero_le _, Lib.hid rfl⟩
  case round =>
    clear HD
    obtain ⟨j, acc, s', hj, rfl, hown, hr, ho, hal, hp⟩ := hrel
    have HR := Lib.hid hr
    have HO := Lib.hid ho
    have Hown := Lib.hid hown
    have hos := ho.size
    by_cases hlt : j < k
    · have hltz : (j : Int) < (k : Int) := by omega
      obtain ⟨l', sh⟩ := s'
      obtain ⟨-, p, n, c, hb, -⟩ := hr
      have r1 := hb.c0 1 _ rfl
      simp at r1
      have Hp : Hid (listP pairR k [] s = if sh = true then ([], (l', sh)) else listP pairR (k - (j + 1)) (acc ++ [(pairR (l', sh)).1]) (pairR (l', sh)).2) := Lib.hid (by rw [hp.out, show k - j = (k - (j + 1)) + 1 by omega]; rfl)
      clear hp hb ho hown
      cases sh with
      | true =>
        have Hr : Hid (listP pairR k [] s = ([], (l', true))) := Lib.hid (by rw [Hp.out]; rfl)
        clear Hp
        go_wp2
        go_ret
        rw [ListOut, Hr.out]
        exact ⟨_, rfl, World.ownsRow_nil _ _ _ _, HR.out, HO.out⟩
      | false =>
        have Hr : Hid (listP pairR k [] s = listP pairR (k - (j + 1)) (acc ++ [(pairR (l', false)).1]) (pairR (l', false)).2) := Lib.hid (by rw [Hp.out]; rfl)
        clear Hp
        have hn := npair_w C rb (l', false) wr HR.out
        (try unfold NextOut at hn)
        generalize pairR (l', false) = r at *
        obtain ⟨x, s2⟩ := r
        obtain ⟨xk, xv, xn⟩ := x
        simp only [prV] at hn Hr
        have HN := Lib.hid hn
        clear hn
        go_wp2_with fail
        refine HN.out.mono ?_
        rintro e w2 ⟨rfl, hr2, ho2⟩
        have HR2 := Lib.hid hr2
        have HO2 := Lib.hid (HO.out.trans ho2)
        have Hown2 := Lib.hid (own_but Hown.out ho2 hrl)
        have hos2 := HO2.out.size
        clear hr2 ho2 r1 HN
        go_wp2_with (at_builtin; refine wpList_append_own _ rfl _ _ 28 rfl w.heap.size 48 i0 (.agg #[.string ⟨#[]⟩, .string ⟨#[]⟩, .int .i64 0]) 3 40 Tryz.underlying28 hi hz0 hz1 hz2 rfl (by decide) _ _ _ rfl (own_alloc Hown2.out _) ⟨w2.heap.size, 0, none⟩ 1 1 [.string (Str xk), .string (Str xv), .int .i64 xn] rfl rfl (cells_new' _ _ _ (by simp)) (by intro u hu; simp at hu; (try rcases hu with rfl | rfl | rfl | rfl | rfl | rfl | rfl | rfl) <;> (try subst hu) <;> rfl) (by unfold maxLen; omega) (by omega) (by simp; omega) ?_; intro v' w3 hown' hgrow _)
        have Hown' := Lib.hid hown'
        have hbw : Below w.heap.size w2 w3 := Below.grown ((Below.refl _ _).alloc hos2 _) hgrow (by simp; omega) (fun q hq => (Hown2.out.lt q hq).1)
        have HR3 := Lib.hid (HR2.out.below hrl hbw)
        have HO3 := Lib.hid (HO2.out.ext hbw)
        clear hown' hgrow hbw
        go_wp2
        go_roundw
        case rel => exact ⟨j + 1, acc ++ [_], s2, by omega, by go_num, by rw [List.length_append, List.flatMap_append]; exact Hown'.out, HR3.out, HO3.out, by simp; omega, Hr⟩
        case measure => simp [intOf]; omega
    · obtain rfl : j = k := by omega
      have Hr : Hid (listP pairR j [] s = (acc, s')) := Lib.hid (by rw [hp.out, Nat.sub_self]; rfl)
      clear hp hr ho hown
      go_wp2
      go_ret
      rw [ListOut, Hr.out]
      exact ⟨_, rfl, Hown.out, HR.out, HO.out⟩

set_option maxRecDepth 100000 in
set_option maxHeartbeats 4000000 in
theorem nlistI_w (C rb k : Nat) (s : RS) (w : World) (h : RdN C w rb s) (hk : k < 4294967296) : Calls Tryz.prog 192 #[ptrV rb, .int .i64 k, .func (.func 150) #[ptrV rb] #[]] w (ListOut C rb 3 1 encI (listP num4 k [] s) w) := by
  obtain ⟨i0, hi, hz0, hz1, hz2⟩ := info_parts infoI
  have hrl := h.lt
  have HD := Lib.hid h
  clear h
  go_enter Tryz.func192, Tryz.ntmps192
  go_wp2
  go_loopw [7, 9] (fun v i wr => ∃ (j : Nat) (acc : List Int) (s' : RS), j ≤ k ∧ i = .int .i64 j ∧ wr.ownsRow w.heap.size 3 1 v acc.length (acc.flatMap encI) ∧ RdN C wr rb s' ∧ But rb w wr ∧ acc.length ≤ j ∧ Hid (listP num4 k [] s = listP num4 (k - j) acc s')) (fun _ i _ => k - (intOf i).toNat)
  case atStart => exact ⟨0, [], s, Nat.zero_le _, rfl, World.ownsRow_nil _ _ _ _, HD.out, But.refl _ _, Nat.zero_le _, Lib.hid rfl⟩
  case round =>
    clear HD
    obtain ⟨j, acc, s', hj, rfl, hown, hr, ho, hal, hp⟩ := hrel
    have HR := Lib.hid hr
    have HO := Lib.hid ho
    have Hown := Lib.hid hown
    have hos := ho.size
    by_cases hlt : j < k
    · have hltz : (j : Int) < (k : Int) := by omega
      obtain ⟨l', sh⟩ := s'
      obtain ⟨-, p, n, c, hb, -⟩ := hr
      have r1 := hb.c0 1 _ rfl
      simp at r1
      have Hp : Hid (listP num4 k [] s = if sh = true then ([], (l', sh)) else listP num4 (k - (j + 1)) (acc ++ [(num4 (l', sh)).1]) (num4 (l', sh)).2) := Lib.hid (by rw [hp.out, show k - j = (k - (j + 1)) + 1 by omega]; rfl)
      clear hp hb ho hown
      cases sh with
      | true =>
        have Hr : Hid (listP num4 k [] s = ([], (l', true))) := Lib.hid (by rw [Hp.out]; rfl)
        clear Hp
        go_wp2
        go_ret
        rw [ListOut, Hr.out]
        exact ⟨_, rfl, World.ownsRow_nil _ _ _ _, HR.out, HO.out⟩
      | false =>
        have Hr : Hid (listP num4 k [] s = listP num4 (k - (j + 1)) (acc ++ [(num4 (l', false)).1]) (num4 (l', false)).2) := Lib.hid (by rw [Hp.out]; rfl)
        clear Hp
        have hn := ncount_w C rb (l', false) wr HR.out
        (try unfold NextOut at hn)
        generalize num4 (l', false) = r at *
        obtain ⟨x, s2⟩ := r
        skip
        simp only at hn Hr
        have HN := Lib.hid hn
        clear hn
        go_wp2_with fail
        refine HN.out.mono ?_
        rintro e w2 ⟨rfl, hr2, ho2⟩
        have HR2 := Lib.hid hr2
        have HO2 := Lib.hid (HO.out.trans ho2)
        have Hown2 := Lib.hid (own_but Hown.out ho2 hrl)
        have hos2 := HO2.out.size
        clear hr2 ho2 r1 HN
        go_wp2_with (at_builtin; refine wpList_append_own _ rfl _ _ 30 rfl w.heap.size 3 i0 (.int .i64 0) 1 8 Tryz.underlying30 hi hz0 hz1 hz2 rfl (by decide) _ _ _ rfl (own_alloc Hown2.out _) ⟨w2.heap.size, 0, none⟩ 1 1 [.int .i64 x] rfl rfl (cells_new' _ _ _ (by simp)) (by intro u hu; simp at hu; (try rcases hu with rfl | rfl | rfl | rfl | rfl | rfl | rfl | rfl) <;> (try subst hu) <;> rfl) (by unfold maxLen; omega) (by omega) (by simp; omega) ?_; intro v' w3 hown' hgrow _)
        have Hown' := Lib.hid hown'
        have hbw : Below w.heap.size w2 w3 := Below.grown ((Below.refl _ _).alloc hos2 _) hgrow (by simp; omega) (fun q hq => (Hown2.out.lt q hq).1)
        have HR3 := Lib.hid (HR2.out.below hrl hbw)
        have HO3 := Lib.hid (HO2.out.ext hbw)
        clear hown' hgrow hbw
        go_wp2
        go_roundw
        case rel => exact ⟨j + 1, acc ++ [_], s2, by omega, by go_num, by rw [List.length_append, List.flatMap_append]; exact Hown'.out, HR3.out, HO3.out, by simp; omega, Hr⟩
        case measure => simp [intOf]; omega
    · obtain rfl : j = k := by omega
      have Hr : Hid (listP num4 j [] s = (acc, s')) := Lib.hid (by rw [hp.out, Nat.sub_self]; rfl)
      clear hp hr ho hown
      go_wp2
      go_ret
      rw [ListOut, Hr.out]
      exact ⟨_, rfl, Hown.out, HR.out, HO.out⟩

set_option maxRecDepth 100000 in
set_option maxHeartbeats 4000000 in
theorem nlistT_w (C rb k : Nat) (s : RS) (w : World) (h : RdN C w rb s) (hk : k < 4294967296) : Calls Tryz.prog 193 #[ptrV rb, .int .i64 k, .func (.func 191) #[ptrV rb] #[]] w (ListOut C rb 9 1 encT (listP textP k [] s) w) := by
  obtain ⟨i0, hi, hz0, hz1, hz2⟩ := info_parts infoStr
  have hrl := h.lt
  have HD := Lib.hid h
  clear h
  go_enter Tryz.func193, Tryz.ntmps193
  go_wp2
  go_loopw [7, 9] (fun v i wr => ∃ (j : Nat) (acc : List Bs) (s' : RS), j ≤ k ∧ i = .int .i64 j ∧ wr.ownsRow w.heap.size 9 1 v acc.length (acc.flatMap encT) ∧ RdN C wr rb s' ∧ But rb w wr ∧ acc.length ≤ j ∧ Hid (listP textP k [] s = listP textP (k - j) acc s')) (fun _ i _ => k - (intOf i).toNat)
  case atStart => exact ⟨0, [], s, Nat.zero_le _, rfl, World.ownsRow_nil _ _ _ _, HD.out, But.refl _ _, Nat.zero_le _, Lib.hid rfl⟩
  case round =>
    clear HD
    obtain ⟨j, acc, s', hj, rfl, hown, hr, ho, hal, hp⟩ := hrel
    have HR := Lib.hid hr
    have HO := Lib.hid ho
    have Hown := Lib.hid hown
    have hos := ho.size
    by_cases hlt : j < k
    · have hltz : (j : Int) < (k : Int) := by omega
      obtain ⟨l', sh⟩ := s'
      obtain ⟨-, p, n, c, hb, -⟩ := hr
      have r1 := hb.c0 1 _ rfl
      simp at r1
      have Hp : Hid (listP textP k [] s = if sh = true then ([], (l', sh)) else listP textP (k - (j + 1)) (acc ++ [(textP (l', sh)).1]) (textP (l', sh)).2) := Lib.hid (by rw [hp.out, show k - j = (k - (j + 1)) + 1 by omega]; rfl)
      clear hp hb ho hown
      cases sh with
      | true =>
        have Hr : Hid (listP textP k [] s = ([], (l', true))) := Lib.hid (by rw [Hp.out]; rfl)
        clear Hp
        go_wp2
        go_ret
        rw [ListOut, Hr.out]
        exact ⟨_, rfl, World.ownsRow_nil _ _ _ _, HR.out, HO.out⟩
      | false =>
        have Hr : Hid (listP textP k [] s = listP textP (k - (j + 1)) (acc ++ [(textP (l', false)).1]) (textP (l', false)).2) := Lib.hid (by rw [Hp.out]; rfl)
        clear Hp
        have hn := ntext_w C rb (l', false) wr HR.out
        (try unfold NextOut at hn)
        generalize textP (l', false) = r at *
        obtain ⟨x, s2⟩ := r
        skip
        simp only at hn Hr
        have HN := Lib.hid hn
        clear hn
        go_wp2_with fail
        refine HN.out.mono ?_
        rintro e w2 ⟨rfl, hr2, ho2⟩
        have HR2 := Lib.hid hr2
        have HO2 := Lib.hid (HO.out.trans ho2)
        have Hown2 := Lib.hid (own_but Hown.out ho2 hrl)
        have hos2 := HO2.out.size
        clear hr2 ho2 r1 HN
        go_wp2_with (at_builtin; refine wpList_append_own _ rfl _ _ 29 rfl w.heap.size 9 i0 (.string ⟨#[]⟩) 1 16 Tryz.underlying29 hi hz0 hz1 hz2 rfl (by decide) _ _ _ rfl (own_alloc Hown2.out _) ⟨w2.heap.size, 0, none⟩ 1 1 [.string (Str x)] rfl rfl (cells_new' _ _ _ (by simp)) (by intro u hu; simp at hu; (try rcases hu with rfl | rfl | rfl | rfl | rfl | rfl | rfl | rfl) <;> (try subst hu) <;> rfl) (by unfold maxLen; omega) (by omega) (by simp; omega) ?_; intro v' w3 hown' hgrow _)
        have Hown' := Lib.hid hown'
        have hbw : Below w.heap.size w2 w3 := Below.grown ((Below.refl _ _).alloc hos2 _) hgrow (by simp; omega) (fun q hq => (Hown2.out.lt q hq).1)
        have HR3 := Lib.hid (HR2.out.below hrl hbw)
        have HO3 := Lib.hid (HO2.out.ext hbw)
        clear hown' hgrow hbw
        go_wp2
        go_roundw
        case rel => exact ⟨j + 1, acc ++ [_], s2, by omega, by go_num, by rw [List.length_append, List.flatMap_append]; exact Hown'.out, HR3.out, HO3.out, by simp; omega, Hr⟩
        case measure => simp [intOf]; omega
    · obtain rfl : j = k := by omega
      have Hr : Hid (listP textP j [] s = (acc, s')) := Lib.hid (by rw [hp.out, Nat.sub_self]; rfl)
      clear hp hr ho hown
      go_wp2
      go_ret
      rw [ListOut, Hr.out]
      exact ⟨_, rfl, Hown.out, HR.out, HO.out⟩

set_option maxRecDepth 100000 in
set_option maxHeartbeats 4000000 in
theorem nlistS_w (C rb k : Nat) (s : RS) (w : World) (h : RdN C w rb s) (hk : k < 4294967296) : Calls Tryz.prog 194 #[ptrV rb, .int .i64 k, .func (.func 195) #[ptrV rb] #[]] w (ListOut C rb 52 4 encSm (listP sumR k [] s) w) := by
  obtain ⟨i0, hi, hz0, hz1, hz2⟩ := info_parts infoSm
  have hrl := h.lt
  have HD := Lib.hid h
  clear h
  go_enter Tryz.func194, Tryz.ntmps194
  go_wp2
  go_loopw [7, 9] (fun v i wr => ∃ (j : Nat) (acc : List Sm) (s' : RS), j ≤ k ∧ i = .int .i64 j ∧ wr.ownsRow w.heap.size 52 4 v acc.length (acc.flatMap encSm) ∧ RdN C wr rb s' ∧ But rb w wr ∧ acc.length ≤ j ∧ Hid (listP sumR k [] s = listP sumR (k - j) acc s')) (fun _ i _ => k - (intOf i).toNat)
  case atStart => exact ⟨0, [], s, Nat.zero_le _, rfl, World.ownsRow_nil _ _ _ _, HD.out, But.refl _ _, Nat.zero_le _, Lib.hid rfl⟩
  case round =>
    clear HD
    obtain ⟨j, acc, s', hj, rfl, hown, hr, ho, hal, hp⟩ := hrel
    have HR := Lib.hid hr
    have HO := Lib.hid ho
    have Hown := Lib.hid hown
    have hos := ho.size
    by_cases hlt : j < k
    · have hltz : (j : Int) < (k : Int) := by omega
      obtain ⟨l', sh⟩ := s'
      obtain ⟨-, p, n, c, hb, -⟩ := hr
      have r1 := hb.c0 1 _ rfl
      simp at r1
      have Hp : Hid (listP sumR k [] s = if sh = true then ([], (l', sh)) else listP sumR (k - (j + 1)) (acc ++ [(sumR (l', sh)).1]) (sumR (l', sh)).2) := Lib.hid (by rw [hp.out, show k - j = (k - (j + 1)) + 1 by omega]; rfl)
      clear hp hb ho hown
      cases sh with
      | true =>
        have Hr : Hid (listP sumR k [] s = ([], (l', true))) := Lib.hid (by rw [Hp.out]; rfl)
        clear Hp
        go_wp2
        go_ret
        rw [ListOut, Hr.out]
        exact ⟨_, rfl, World.ownsRow_nil _ _ _ _, HR.out, HO.out⟩
      | false =>
        have Hr : Hid (listP sumR k [] s = listP sumR (k - (j + 1)) (acc ++ [(sumR (l', false)).1]) (sumR (l', false)).2) := Lib.hid (by rw [Hp.out]; rfl)
        clear Hp
        have hn := nsum_w C rb (l', false) wr HR.out
        (try unfold NextOut at hn)
        generalize sumR (l', false) = r at *
        obtain ⟨x, s2⟩ := r
        obtain ⟨⟨xa, xb⟩, xc, xd⟩ := x
        simp only [smV] at hn Hr
        have HN := Lib.hid hn
        clear hn
        go_wp2_with fail
        refine HN.out.mono ?_
        rintro e w2 ⟨rfl, hr2, ho2⟩
        have HR2 := Lib.hid hr2
        have HO2 := Lib.hid (HO.out.trans ho2)
        have Hown2 := Lib.hid (own_but Hown.out ho2 hrl)
        have hos2 := HO2.out.size
        clear hr2 ho2 r1 HN
        go_wp2_with (at_builtin; refine wpList_append_own _ rfl _ _ 31 rfl w.heap.size 52 i0 (.agg #[.int .i64 0, .int .i64 0, .int .i64 0, .int .i64 0]) 4 32 Tryz.underlying31 hi hz0 hz1 hz2 rfl (by decide) _ _ _ rfl (own_alloc Hown2.out _) ⟨w2.heap.size, 0, none⟩ 1 1 [.int .i64 xa, .int .i64 xb, .int .i64 xc, .int .i64 xd] rfl rfl (cells_new' _ _ _ (by simp)) (by intro u hu; simp at hu; (try rcases hu with rfl | rfl | rfl | rfl | rfl | rfl | rfl | rfl) <;> (try subst hu) <;> rfl) (by unfold maxLen; omega) (by omega) (by simp; omega) ?_; intro v' w3 hown' hgrow _)
        have Hown' := Lib.hid hown'
        have hbw : Below w.heap.size w2 w3 := Below.grown ((Below.refl _ _).alloc hos2 _) hgrow (by simp; omega) (fun q hq => (Hown2.out.lt q hq).1)
        have HR3 := Lib.hid (HR2.out.below hrl hbw)
        have HO3 := Lib.hid (HO2.out.ext hbw)
        clear hown' hgrow hbw
        go_wp2
        go_roundw
        case rel => exact ⟨j + 1, acc ++ [_], s2, by omega, by go_num, by rw [List.length_append, List.flatMap_append]; exact Hown'.out, HR3.out, HO3.out, by simp; omega, Hr⟩
        case measure => simp [intOf]; omega
    · obtain rfl : j = k := by omega
      have Hr : Hid (listP sumR j [] s = (acc, s')) := Lib.hid (by rw [hp.out, Nat.sub_self]; rfl)
      clear hp hr ho hown
      go_wp2
      go_ret
      rw [ListOut, Hr.out]
      exact ⟨_, rfl, Hown.out, HR.out, HO.out⟩

set_option maxRecDepth 100000 in
set_option maxHeartbeats 4000000 in
theorem nlistM_w (C rb k : Nat) (s : RS) (w : World) (h : RdN C w rb s) (hk : k < 4294967296) : Calls Tryz.prog 196 #[ptrV rb, .int .i64 k, .func (.func 197) #[ptrV rb] #[]] w (ListOut C rb 46 8 encML (listP msgR k [] s) w) := by
  obtain ⟨i0, hi, hz0, hz1, hz2⟩ := info_parts infoM
  have hrl := h.lt
  have HD := Lib.hid h
  clear h
  go_enter Tryz.func196, Tryz.ntmps196
  go_wp2
  go_loopw [7, 9] (fun v i wr => ∃ (j : Nat) (acc : List Ms) (s' : RS), j ≤ k ∧ i = .int .i64 j ∧ wr.ownsRow w.heap.size 46 8 v acc.length (acc.flatMap encML) ∧ RdN C wr rb s' ∧ But rb w wr ∧ acc.length ≤ j ∧ Hid (listP msgR k [] s = listP msgR (k - j) acc s')) (fun _ i _ => k - (intOf i).toNat)
  case atStart => exact ⟨0, [], s, Nat.zero_le _, rfl, World.ownsRow_nil _ _ _ _, HD.out, But.refl _ _, Nat.zero_le _, Lib.hid rfl⟩
  case round =>
    clear HD
    obtain ⟨j, acc, s', hj, rfl, hown, hr, ho, hal, hp⟩ := hrel
    have HR := Lib.hid hr
    have HO := Lib.hid ho
    have Hown := Lib.hid hown
    have hos := ho.size
    by_cases hlt : j < k
    · have hltz : (j : Int) < (k : Int) := by omega
      obtain ⟨l', sh⟩ := s'
      obtain ⟨-, p, n, c, hb, -⟩ := hr
      have r1 := hb.c0 1 _ rfl
      simp at r1
      have Hp : Hid (listP msgR k [] s = if sh = true then ([], (l', sh)) else listP msgR (k - (j + 1)) (acc ++ [(msgR (l', sh)).1]) (msgR (l', sh)).2) := Lib.hid (by rw [hp.out, show k - j = (k - (j + 1)) + 1 by omega]; rfl)
      clear hp hb ho hown
      cases sh with
      | true =>
        have Hr : Hid (listP msgR k [] s = ([], (l', true))) := Lib.hid (by rw [Hp.out]; rfl)
        clear Hp
        go_wp2
        go_ret
        rw [ListOut, Hr.out]
        exact ⟨_, rfl, World.ownsRow_nil _ _ _ _, HR.out, HO.out⟩
      | false =>
        have Hr : Hid (listP msgR k [] s = listP msgR (k - (j + 1)) (acc ++ [(msgR (l', false)).1]) (msgR (l', false)).2) := Lib.hid (by rw [Hp.out]; rfl)
        clear Hp
        have hn := nmessage_w C rb (l', false) wr HR.out
        (try unfold NextOut at hn)
        generalize msgR (l', false) = r at *
        obtain ⟨x, s2⟩ := r
        obtain ⟨xkind, xkey, xval, xlo, xhi, xsrc, xdst, xn⟩ := x
        simp only [msgV] at hn Hr
        have HN := Lib.hid hn
        clear hn
        go_wp2_with fail
        refine HN.out.mono ?_
        rintro e w2 ⟨rfl, hr2, ho2⟩
        have HR2 := Lib.hid hr2
        have HO2 := Lib.hid (HO.out.trans ho2)
        have Hown2 := Lib.hid (own_but Hown.out ho2 hrl)
        have hos2 := HO2.out.size
        clear hr2 ho2 r1 HN
        go_wp2_with (at_builtin; refine wpList_append_own _ rfl _ _ 32 rfl w.heap.size 46 i0 (.agg #[.int .i64 0, .string ⟨#[]⟩, .string ⟨#[]⟩, .string ⟨#[]⟩, .string ⟨#[]⟩, .string ⟨#[]⟩, .string ⟨#[]⟩, .int .i64 0]) 8 112 Tryz.underlying32 hi hz0 hz1 hz2 rfl (by decide) _ _ _ rfl (own_alloc Hown2.out _) ⟨w2.heap.size, 0, none⟩ 1 1 [.int .i64 xkind, .string (Str xkey), .string (Str xval), .string (Str xlo), .string (Str xhi), .string (Str xsrc), .string (Str xdst), .int .i64 xn] rfl rfl (cells_new' _ _ _ (by simp)) (by intro u hu; simp at hu; (try rcases hu with rfl | rfl | rfl | rfl | rfl | rfl | rfl | rfl) <;> (try subst hu) <;> rfl) (by unfold maxLen; omega) (by omega) (by simp; omega) ?_; intro v' w3 hown' hgrow _)
        have Hown' := Lib.hid hown'
        have hbw : Below w.heap.size w2 w3 := Below.grown ((Below.refl _ _).alloc hos2 _) hgrow (by simp; omega) (fun q hq => (Hown2.out.lt q hq).1)
        have HR3 := Lib.hid (HR2.out.below hrl hbw)
        have HO3 := Lib.hid (HO2.out.ext hbw)
        clear hown' hgrow hbw
        go_wp2
        go_roundw
        case rel => exact ⟨j + 1, acc ++ [_], s2, by omega, by go_num, by rw [List.length_append, List.flatMap_append]; exact Hown'.out, HR3.out, HO3.out, by simp; omega, Hr⟩
        case measure => simp [intOf]; omega
    · obtain rfl : j = k := by omega
      have Hr : Hid (listP msgR j [] s = (acc, s')) := Lib.hid (by rw [hp.out, Nat.sub_self]; rfl)
      clear hp hr ho hown
      go_wp2
      go_ret
      rw [ListOut, Hr.out]
      exact ⟨_, rfl, Hown.out, HR.out, HO.out⟩

end Go.Proofs.YtmbfghbhajmpiaaGreat
namespace Go.Proofs.YtmbfghbhajmpiaaGreat
open Go.RowKit Go.Sort
set_option linter.unusedVariables false

theorem flatI_len (l : List Int) : (l.flatMap encI).length = l.length := by
  induction l with
  | nil => rfl
  | cons x l ih => rw [List.flatMap_cons, List.length_append, ih, List.length_cons]; simp [encI]; omega
theorem IsInts.owned {w : World} {base : Nat} {v : Value} {n : Nat} {l : List Int} (h : w.ownsRow base 3 1 v n (l.flatMap encI)) : IsInts w v l := by
  have hfl := flatI_len l
  have hgt : ∀ i (hi : i < l.length), (l.flatMap encI)[i]? = some (.int .i64 l[i]) := by
    clear hfl h
    induction l with
    | nil => intro i hi; simp at hi
    | cons x l ih =>
      intro i hi
      cases i with
      | zero => rfl
      | succ i => exact ih i (by simpa using hi)
  have hlen := h.1
  rw [hfl] at hlen
  obtain rfl : n = l.length := by omega
  rcases h.2 with ⟨rfl, h0⟩ | ⟨g, cap, cur, rfl, hb, hg, hn, hm, hsz, htk⟩
  · have : l = [] := List.length_eq_zero_iff.1 h0
    subst this
    exact ⟨none, 0, rfl, Nat.le_refl _, by unfold maxLen; omega, fun h => absurd rfl h⟩
  · refine ⟨_, cap, rfl, hn, hm, fun hne => ⟨g, 0, rfl, (Array.getElem?_eq_some_iff.1 hg).1, fun i hi => ?_⟩⟩
    unfold World.cell?
    rw [hg]
    show cur[0 + i]? = _
    have h1 : (cur.toList.take (l.length * 1))[i]? = some (.int .i64 l[i]) := by rw [htk]; exact hgt i hi
    rw [List.getElem?_take] at h1
    split at h1
    · rw [Array.getElem?_toList] at h1; rw [Nat.zero_add]; exact h1
    · cases h1
theorem flatSm_get (l : List Sm) (i : Nat) (h : i < l.length) : (l.flatMap encSm)[i * 4]? = some (.int .i64 l[i].1.1) ∧ (l.flatMap encSm)[i * 4 + 1]? = some (.int .i64 l[i].1.2) ∧ (l.flatMap encSm)[i * 4 + 2]? = some (.int .i64 l[i].2.1) ∧ (l.flatMap encSm)[i * 4 + 3]? = some (.int .i64 l[i].2.2) := by
  induction l generalizing i with
  | nil => simp at h
  | cons s l ih =>
    have e : (s :: l).flatMap encSm = .int .i64 s.1.1 :: .int .i64 s.1.2 :: .int .i64 s.2.1 :: .int .i64 s.2.2 :: l.flatMap encSm := rfl
    rw [e]
    cases i with
    | zero => exact ⟨rfl, rfl, rfl, rfl⟩
    | succ i =>
      have := ih i (by simpa using h)
      rw [show (i + 1) * 4 = i * 4 + 4 by omega]
      exact this
theorem flatSm_len (l : List Sm) : (l.flatMap encSm).length = l.length * 4 := by
  induction l with
  | nil => rfl
  | cons s l ih =>
    have e : (s :: l).flatMap encSm = .int .i64 s.1.1 :: .int .i64 s.1.2 :: .int .i64 s.2.1 :: .int .i64 s.2.2 :: l.flatMap encSm := rfl
    rw [e]; simp [ih]; omega
theorem IsSums.owned {w : World} {base : Nat} {v : Value} {n : Nat} {l : List Sm} (h : w.ownsRow base 52 4 v n (l.flatMap encSm)) : IsSums w v l := by
  have hlen := h.1
  rw [flatSm_len] at hlen
  obtain rfl : n = l.length := by omega
  rcases h.2 with ⟨rfl, h0⟩ | ⟨g, cap, cur, rfl, hb, hg, hn, hm, hsz, htk⟩
  · have : l = [] := List.length_eq_zero_iff.1 h0
    subst this
    exact ⟨none, 0, rfl, Nat.le_refl _, by unfold maxLen; omega, fun h => absurd rfl h⟩
  · refine ⟨_, cap, rfl, hn, hm, fun hne => ⟨g, 0, rfl, (Array.getElem?_eq_some_iff.1 hg).1, fun i hi => ?_⟩⟩
    have hc : ∀ j u, (l.flatMap encSm)[j]? = some u → w.cell? ⟨g, 0 + j, none⟩ = some u := by
      intro j u hj
      unfold World.cell?
      rw [hg]
      show cur[0 + j]? = _
      have h1 : (cur.toList.take (l.length * 4))[j]? = some u := by rw [htk]; exact hj
      rw [List.getElem?_take] at h1
      split at h1
      · rw [Array.getElem?_toList] at h1; rw [Nat.zero_add]; exact h1
      · cases h1
    have g3 := flatSm_get l i hi
    refine ⟨hc _ _ g3.1, ?_, ?_, ?_⟩
    · rw [Nat.add_assoc]; exact hc _ _ g3.2.1
    · rw [Nat.add_assoc]; exact hc _ _ g3.2.2.1
    · rw [Nat.add_assoc]; exact hc _ _ g3.2.2.2

theorem listP_texts (k : Nat) (s : RS) : ∀ x ∈ (listP textP k [] s).1, x.length ≤ maxLen := listP_mem (p := fun x : Bs => x.length ≤ maxLen) (fun s => by have := textP_short s; unfold maxLen; omega) k [] s (fun x hx => by cases hx)
theorem listP_pairs (k : Nat) (s : RS) : ∀ x ∈ (listP pairR k [] s).1, x.1.length ≤ maxLen ∧ x.2.1.length ≤ maxLen := listP_mem (p := fun x : Pr => x.1.length ≤ maxLen ∧ x.2.1.length ≤ maxLen) (fun s => by
  have h1 := textP_short s
  have h2 := textP_short (textP s).2
  unfold pairR maxLen; simp only; omega) k [] s (fun x hx => by cases hx)

theorem flatT_map (l : List Bs) : l.flatMap encT = l.map fun s => Value.string (Str s) := by
  induction l with
  | nil => rfl
  | cons x l ih => rw [List.flatMap_cons, ih]; rfl
theorem IsStrs.ownedT {w : World} {base : Nat} {v : Value} {n : Nat} {l : List Bs} (h : w.ownsRow base 9 1 v n (l.flatMap encT)) : IsStrs w v l := by
  rw [flatT_map] at h; exact IsStrs.owned h
theorem IsMsgs.ownedM {w : World} {base : Nat} {v : Value} {l : List Ms} (h : w.ownsRow base 46 8 v l.length (l.flatMap encML)) : IsMsgs w v l := OwnM.msgs (B := base) h
theorem nil_pairs (w : World) : IsPairs w (.slice none 0 0) [] := ⟨none, 0, rfl, Nat.le_refl _, by unfold maxLen; omega, fun x hx => (by cases hx), fun h => absurd rfl h⟩
theorem nil_strs (w : World) : IsStrs w (.slice none 0 0) [] := ⟨none, 0, rfl, Nat.le_refl _, by unfold maxLen; omega, fun h => absurd rfl h⟩
theorem nil_ints (w : World) : IsInts w (.slice none 0 0) [] := ⟨none, 0, rfl, Nat.le_refl _, by unfold maxLen; omega, fun h => absurd rfl h⟩
theorem nil_sums (w : World) : IsSums w (.slice none 0 0) [] := ⟨none, 0, rfl, Nat.le_refl _, by unfold maxLen; omega, fun h => absurd rfl h⟩
theorem nil_msgs (w : World) : IsMsgs w (.slice none 0 0) [] := ⟨none, 0, rfl, Nat.le_refl _, by unfold maxLen; omega, fun h => absurd rfl h⟩
theorem nil_node (w : World) : IsNode w (.agg #[.slice none 0 0, .slice none 0 0, .slice none 0 0, .slice none 0 0, .slice none 0 0]) noNd := ⟨_, _, _, _, _, rfl, nil_pairs w, nil_strs w, nil_ints w, nil_sums w, nil_msgs w⟩
theorem five_ok {w : World} {b : Nat} {T : TypeId} {x0 x1 x2 x3 x4 : Value} (h : Blk w b T #[x0, x1, x2, x3, x4]) :
    w.cell? ⟨b, 0, none⟩ = some x0 ∧ w.cell? ⟨b, 1, none⟩ = some x1 ∧ w.cell? ⟨b, 2, none⟩ = some x2 ∧ w.cell? ⟨b, 3, none⟩ = some x3 ∧ w.cell? ⟨b, 4, none⟩ = some x4 ∧
    w.frozen? ⟨b, 0, none⟩ = false ∧ w.frozen? ⟨b, 1, none⟩ = false ∧ w.frozen? ⟨b, 2, none⟩ = false ∧ w.frozen? ⟨b, 3, none⟩ = false ∧ w.frozen? ⟨b, 4, none⟩ = false :=
  ⟨h.c0 0 _ rfl, h.c0 1 _ rfl, h.c0 2 _ rfl, h.c0 3 _ rfl, h.c0 4 _ rfl, h.free 0, h.free 1, h.free 2, h.free 3, h.free 4⟩
@[reducible] def st5 (w : World) (b : Nat) (y0 y1 y2 y3 y4 : Value) : World := ((((w.setCell ⟨b, 0, none⟩ y0).setCell ⟨b, 1, none⟩ y1).setCell ⟨b, 2, none⟩ y2).setCell ⟨b, 3, none⟩ y3).setCell ⟨b, 4, none⟩ y4
theorem RdN.st5 {C : Nat} {w : World} {rb c : Nat} {s : RS} {y0 y1 y2 y3 y4 : Value} (h : RdN C w rb s) (hc : rb < c) : RdN C (st5 w c y0 y1 y2 y3 y4) rb s := ((((h.put hc).put hc).put hc).put hc).put hc
theorem But.st5 {b c : Nat} {x y : World} {y0 y1 y2 y3 y4 : Value} (h : But b x y) (hc : x.heap.size ≤ c) : But b x (st5 y c y0 y1 y2 y3 y4) := ((((h.put hc).put hc).put hc).put hc).put hc
/-- A row apart from a block that is stored into. -/
theorem own_put {w : World} {B size m c i : Nat} {T T2 : TypeId} {v x : Value} {xs : List Value} {cs : Array Value} (h : w.ownsRow B T size v m xs) (hc : Blk w c T2 cs) (hT : T ≠ T2) : (w.setCell ⟨c, i, none⟩ x).ownsRow B T size v m xs := by
  refine ⟨h.1, ?_⟩
  rcases h.2 with h | ⟨g, cp, cur, h2, h3, h4, h5⟩
  · exact .inl h
  · have hne : g ≠ c := by
      rintro rfl
      unfold Blk at hc
      rw [h4] at hc
      injection hc with hc
      injection hc with _ ht
      exact hT ht
    exact .inr ⟨g, cp, cur, h2, h3, by rw [Below.heap_setCell _ _ _ _ hne]; exact h4, h5⟩
theorem own_st5 {w : World} {B size m c : Nat} {T T2 : TypeId} {v y0 y1 y2 y3 y4 x0 x1 x2 x3 x4 : Value} {xs : List Value} (h : w.ownsRow B T size v m xs) (hc : Blk w c T2 #[x0, x1, x2, x3, x4]) (hT : T ≠ T2) : (st5 w c y0 y1 y2 y3 y4).ownsRow B T size v m xs := by
  have h0 := own_put (i := 0) (x := y0) h hc hT
  have b0 := hc.setCell 0 y0
  have h1 := own_put (i := 1) (x := y1) h0 b0 hT
  have b1 := b0.setCell 1 y1
  have h2 := own_put (i := 2) (x := y2) h1 b1 hT
  have b2 := b1.setCell 2 y2
  have h3 := own_put (i := 3) (x := y3) h2 b2 hT
  have b3 := b2.setCell 3 y3
  exact own_put (i := 4) (x := y4) h3 b3 hT

/-- A node all of whose lists lie in rows of their own. -/
structure OwnL (w : World) (B : Nat) (a b c d e : Value) (n : Nd) : Prop where
  a : w.ownsRow B 48 3 a n.pairs.length (n.pairs.flatMap encP)
  l : ∀ x ∈ n.pairs, x.1.length ≤ maxLen ∧ x.2.1.length ≤ maxLen
  b : w.ownsRow B 9 1 b n.pivots.length (n.pivots.flatMap encT)
  c : w.ownsRow B 3 1 c n.kids.length (n.kids.flatMap encI)
  d : w.ownsRow B 52 4 d n.sums.length (n.sums.flatMap encSm)
  e : w.ownsRow B 46 8 e n.buf.length (n.buf.flatMap encML)
def OwnNode (w : World) (B : Nat) (v : Value) (n : Nd) : Prop :=
  ∃ pa ca pb cb pc cc pd cd pe ce, v = .agg #[.slice pa n.pairs.length ca, .slice pb n.pivots.length cb, .slice pc n.kids.length cc, .slice pd n.sums.length cd, .slice pe n.buf.length ce] ∧
    OwnL w B (.slice pa n.pairs.length ca) (.slice pb n.pivots.length cb) (.slice pc n.kids.length cc) (.slice pd n.sums.length cd) (.slice pe n.buf.length ce) n
theorem OwnL.node {w : World} {B : Nat} {a b c d e : Value} {n : Nd} (h : OwnL w B a b c d e n) : OwnNode w B (.agg #[a, b, c, d, e]) n := by
  obtain ⟨pa, ca, rfl, -⟩ := id (IsPairs.owned h.a h.l)
  obtain ⟨pb, cb, rfl, -⟩ := id (IsStrs.ownedT h.b)
  obtain ⟨pc, cc, rfl, -⟩ := id (IsInts.owned h.c)
  obtain ⟨pd, cd, rfl, -⟩ := id (IsSums.owned h.d)
  obtain ⟨pe, ce, rfl, -⟩ := id (IsMsgs.ownedM h.e)
  exact ⟨_, _, _, _, _, _, _, _, _, _, rfl, h⟩
theorem OwnNode.is {w : World} {B : Nat} {v : Value} {n : Nd} (h : OwnNode w B v n) : IsNode w v n := by
  obtain ⟨pa, ca, pb, cb, pc, cc, pd, cd, pe, ce, rfl, h⟩ := h
  exact ⟨_, _, _, _, _, rfl, IsPairs.owned h.a h.l, IsStrs.ownedT h.b, IsInts.owned h.c, IsSums.owned h.d, IsMsgs.ownedM h.e⟩
theorem OwnL.base {w : World} {B C : Nat} {a b c d e : Value} {n : Nd} (h : OwnL w B a b c d e n) (hc : C ≤ B) : OwnL w C a b c d e n :=
  ⟨owns_baseG hc h.a, h.l, owns_baseG hc h.b, owns_baseG hc h.c, owns_baseG hc h.d, owns_baseG hc h.e⟩
theorem OwnL.st5 {w : World} {B k : Nat} {a b c d e : Value} {n : Nd} {y0 y1 y2 y3 y4 x0 x1 x2 x3 x4 : Value} (h : OwnL w B a b c d e n) (hc : Blk w k 34 #[x0, x1, x2, x3, x4]) : OwnL (Go.Proofs.YtmbfghbhajmpiaaGreat.st5 w k y0 y1 y2 y3 y4) B a b c d e n :=
  ⟨own_st5 h.a hc (by decide), h.l, own_st5 h.b hc (by decide), own_st5 h.c hc (by decide), own_st5 h.d hc (by decide), own_st5 h.e hc (by decide)⟩
theorem OwnL.alloc {w : World} {B : Nat} {a b c d e : Value} {n : Nd} (h : OwnL w B a b c d e n) (o : Obj) : OwnL (w.alloc o) B a b c d e n :=
  ⟨own_alloc h.a o, h.l, own_alloc h.b o, own_alloc h.c o, own_alloc h.d o, own_alloc h.e o⟩
theorem OwnL.grown {w wx : World} {B : Nat} {a b c d e : Value} {n : Nd} (h : OwnL w B a b c d e n) (hg : Below w.heap.size w wx) : OwnL wx B a b c d e n :=
  ⟨owns_below h.a hg, h.l, owns_below h.b hg, owns_below h.c hg, owns_below h.d hg, owns_below h.e hg⟩
theorem OwnL.nil (w : World) (B : Nat) : OwnL w B (.slice none 0 0) (.slice none 0 0) (.slice none 0 0) (.slice none 0 0) (.slice none 0 0) noNd :=
  ⟨World.ownsRow_nil _ _ _ _, fun x hx => (by cases hx), World.ownsRow_nil _ _ _ _, World.ownsRow_nil _ _ _ _, World.ownsRow_nil _ _ _ _, World.ownsRow_nil _ _ _ _⟩
/-- What a node is read to. -/
def NodeOut (C rb : Nat) (r : Nd × RS) (w : World) (e : Ending) (w' : World) : Prop := ∃ v', e = .returned v' ∧ OwnNode w' w.heap.size v' r.1 ∧ RdN C w' rb r.2 ∧ But rb w w'

set_option maxRecDepth 100000 in
set_option maxHeartbeats 8000000 in
theorem ninner_w (C rb : Nat) (s : RS) (w : World) (h : RdN C w rb s) : Calls Tryz.prog 152 #[ptrV rb] w (NodeOut C rb (innerR s) w) := by
  have hrl := h.lt
  obtain ⟨W1, hW1⟩ : ∃ W1, W1 = w.alloc (.cells #[.slice none 0 0, .slice none 0 0, .slice none 0 0, .slice none 0 0, .slice none 0 0] 34) := ⟨_, rfl⟩
  have HD : Hid (RdN C W1 rb s) := Lib.hid (by rw [hW1]; exact h.alloc _)
  have HX : Hid (Blk W1 w.heap.size 34 #[.slice none 0 0, .slice none 0 0, .slice none 0 0, .slice none 0 0, .slice none 0 0]) := Lib.hid (by rw [hW1]; exact Blk.new _ _ _)
  have HO : Hid (But rb w W1) := Lib.hid (by rw [hW1]; exact (But.refl rb w).alloc _)
  have HW1 := Lib.hid hW1
  have HI : Hid (innerR s = if (numP 4 s).1 = 0 then (noNd, ((numP 4 s).2.1, true)) else
    (⟨[], (listP textP ((numP 4 s).1 - 1) [] (listP num4 (numP 4 s).1 [] (numP 4 s).2).2).1, (listP num4 (numP 4 s).1 [] (numP 4 s).2).1,
      (listP sumR (numP 4 s).1 [] (listP textP ((numP 4 s).1 - 1) [] (listP num4 (numP 4 s).1 [] (numP 4 s).2).2).2).1,
      (listP msgR (numP 4 (listP sumR (numP 4 s).1 [] (listP textP ((numP 4 s).1 - 1) [] (listP num4 (numP 4 s).1 [] (numP 4 s).2).2).2).2).1 [] (numP 4 (listP sumR (numP 4 s).1 [] (listP textP ((numP 4 s).1 - 1) [] (listP num4 (numP 4 s).1 [] (numP 4 s).2).2).2).2).2).1⟩,
      (listP msgR (numP 4 (listP sumR (numP 4 s).1 [] (listP textP ((numP 4 s).1 - 1) [] (listP num4 (numP 4 s).1 [] (numP 4 s).2).2).2).2).1 [] (numP 4 (listP sumR (numP 4 s).1 [] (listP textP ((numP 4 s).1 - 1) [] (listP num4 (numP 4 s).1 [] (numP 4 s).2).2).2).2).2).2)) := Lib.hid rfl
  have hn := numF_small 4 s (by omega)
  have hc1 := ncount_w C rb s W1 HD.out
  unfold num4 at hc1
  rw [show numF (takeP 4 s).1 = (numP 4 s).1 from rfl] at hn
  generalize numP 4 s = r1 at *
  obtain ⟨kk, s1⟩ := r1
  simp only at HI hc1 hn
  have HC1 := Lib.hid hc1
  clear h hW1 hc1
  by_cases h0 : kk = 0
  · subst h0
    have HR : Hid (innerR s = (noNd, (s1.1, true))) := Lib.hid (by rw [HI.out, if_pos rfl])
    clear HI
    go_enter Tryz.func152, Tryz.ntmps152
    go_wp2_with fail
    rw [← HW1.out]
    refine HC1.out.mono ?_
    rintro e w2 ⟨rfl, hr, ho⟩
    have hX2 := ho.blk HX.out (by omega)
    have HO2 := Lib.hid (HO.out.trans ho)
    obtain ⟨hC, p, n, c, hb, hl⟩ := hr
    have r1 := hb.c0 1 _ rfl
    have g1 := hb.free 1
    simp at r1
    have HD2 : Hid (RdN C (w2.setCell ⟨rb, 1, none⟩ (.bool true)) rb (s1.1, true)) := Lib.hid ⟨hC, p, n, c, hb.setCell 1 (.bool true), hl.below ((But.setCell rb 1 (.bool true) w2).below hC hb.lt)⟩
    obtain ⟨x0, x1, x2, x3, x4, f0, f1, f2, f3, f4⟩ := five_ok hX2
    have hne : rb ≠ w.heap.size := by omega
    clear ho hb hl hX2
    go_wp2
    refine bodyPost_ret (v := .agg #[.slice none 0 0, .slice none 0 0, .slice none 0 0, .slice none 0 0, .slice none 0 0]) (by simp [results, Tryz.results152, go_sem, x0, x1, x2, x3, x4]) rfl ?_
    rw [NodeOut, HR.out]
    exact ⟨_, rfl, (OwnL.nil _ _).node, HD2.out.st5 hrl, (HO2.out.trans (But.setCell _ _ _ _)).st5 (Nat.le_refl _)⟩
  · have HR : Hid (innerR s = _) := Lib.hid (HI.out.trans (if_neg h0))
    have hne0 : ((kk : Int) == 0) = false := by simp; omega
    obtain ⟨k1, hk1⟩ : ∃ k1 : Nat, k1 = kk - 1 := ⟨_, rfl⟩
    rw [← hk1] at HR
    have hm1 : (kk : Int) - 1 = (k1 : Int) := by omega
    have hk1l : k1 < 4294967296 := by omega
    have hkk : 1 ≤ (kk : Int) := by omega
    clear HI h0 hk1
    go_enter Tryz.func152, Tryz.ntmps152
    go_wp2_with fail
    rw [← HW1.out]
    refine HC1.out.mono ?_
    rintro e w2 ⟨rfl, hr, ho⟩
    have HX2 := Lib.hid (ho.blk HX.out (by omega))
    have HO2 := Lib.hid (HO.out.trans ho)
    have HD2 := Lib.hid hr
    have HO2' := Lib.hid HO2.out
    have hs2 : rb < w2.heap.size := hr.lt
    clear ho hr HX HD HO HC1 HW1
    go_wp2_with fail
    have hl1 := nlistI_w C rb kk s1 w2 HD2.out hn
    unfold ListOut at hl1
    generalize listP num4 kk [] s1 = q1 at *
    obtain ⟨lk, s2⟩ := q1
    simp only at hl1 HR
    refine hl1.mono ?_
    clear hl1
    rintro e w3 ⟨vk, rfl, hown, hr, ho⟩
    obtain ⟨pk, ck, rfl, -⟩ := id (IsInts.owned hown)
    have HK3 := Lib.hid hown
    have HX3 := Lib.hid (ho.blk HX2.out (by omega))
    have HO3 := Lib.hid (HO2.out.trans ho)
    have HD3 := Lib.hid hr
    have HO3' := Lib.hid HO3.out
    have hs3 : rb < w3.heap.size := hr.lt
    clear ho hr hown HX2 HD2 HO2
    go_wp2_with fail
    have hl2 := nlistT_w C rb k1 s2 w3 HD3.out hk1l
    have htx := listP_texts k1 s2
    unfold ListOut at hl2
    generalize listP textP k1 [] s2 = q2 at *
    obtain ⟨li, s3⟩ := q2
    simp only at hl2 HR htx
    refine hl2.mono ?_
    clear hl2
    rintro e w4 ⟨vi, rfl, hown, hr, ho⟩
    obtain ⟨pi, ci, rfl, -⟩ := id (IsStrs.ownedT hown)
    have HK4 := Lib.hid (own_but HK3.out ho hs2)
    have HI4 := Lib.hid hown
    have HX4 := Lib.hid (ho.blk HX3.out (by omega))
    have HO4 := Lib.hid (HO3.out.trans ho)
    have HD4 := Lib.hid hr
    have HO4' := Lib.hid HO4.out
    have hs4 : rb < w4.heap.size := hr.lt
    clear ho hr hown HX3 HD3 HO3 HK3
    go_wp2_with fail
    have hl3 := nlistS_w C rb kk s3 w4 HD4.out hn
    unfold ListOut at hl3
    generalize listP sumR kk [] s3 = q3 at *
    obtain ⟨ls, s4⟩ := q3
    simp only at hl3 HR
    refine hl3.mono ?_
    clear hl3
    rintro e w5 ⟨vs, rfl, hown, hr, ho⟩
    obtain ⟨ps, cs, rfl, -⟩ := id (IsSums.owned hown)
    have HK5 := Lib.hid (own_but HK4.out ho hs2)
    have HI5 := Lib.hid (own_but HI4.out ho hs3)
    have HS5 := Lib.hid hown
    have HX5 := Lib.hid (ho.blk HX4.out (by omega))
    have HO5 := Lib.hid (HO4.out.trans ho)
    have HD5 := Lib.hid hr
    have hs5 : rb < w5.heap.size := hr.lt
    clear ho hr hown HX4 HD4 HO4 HK4 HI4
    go_wp2_with fail
    have hn4 := numF_small 4 s4 (by omega)
    have hc4 := ncount_w C rb s4 w5 HD5.out
    unfold num4 at hc4
    rw [show numF (takeP 4 s4).1 = (numP 4 s4).1 from rfl] at hn4
    generalize numP 4 s4 = r4 at *
    obtain ⟨mm, s5⟩ := r4
    simp only at HR hc4 hn4
    refine hc4.mono ?_
    clear hc4
    rintro e w6 ⟨rfl, hr, ho⟩
    have HK6 := Lib.hid (own_but HK5.out ho hs2)
    have HI6 := Lib.hid (own_but HI5.out ho hs3)
    have HS6 := Lib.hid (own_but HS5.out ho hs4)
    have HX6 := Lib.hid (ho.blk HX5.out (by omega))
    have HO6 := Lib.hid (HO5.out.trans ho)
    have HD6 := Lib.hid hr
    have HO6' := Lib.hid HO6.out
    have hs6 : rb < w6.heap.size := hr.lt
    clear ho hr HX5 HD5 HO5 HK5 HI5 HS5
    go_wp2_with fail
    have hl6 := nlistM_w C rb mm s5 w6 HD6.out hn4
    unfold ListOut at hl6
    generalize listP msgR mm [] s5 = q6 at *
    obtain ⟨lm, s6⟩ := q6
    simp only at hl6 HR
    refine hl6.mono ?_
    clear hl6
    rintro e w7 ⟨vm, rfl, hown, hr, ho⟩
    obtain ⟨pm, cm, rfl, -⟩ := id (IsMsgs.ownedM hown)
    have HK7 := Lib.hid (own_but HK6.out ho hs2)
    have HI7 := Lib.hid (own_but HI6.out ho hs3)
    have HS7 := Lib.hid (own_but HS6.out ho hs4)
    have HM7 := Lib.hid hown
    have HX7 := Lib.hid (ho.blk HX6.out (by omega))
    have HO7 := Lib.hid (HO6.out.trans ho)
    have HD7 := Lib.hid hr
    clear ho hr hown HX6 HD6 HO6 HK6 HI6 HS6
    obtain ⟨x0, x1, x2, x3, x4, f0, f1, f2, f3, f4⟩ := five_ok HX7.out
    go_wp2
    refine bodyPost_ret (v := .agg #[.slice none 0 0, .slice pi li.length ci, .slice pk lk.length ck, .slice ps ls.length cs, .slice pm lm.length cm]) (by simp [results, Tryz.results152, go_sem, x0, x1, x2, x3, x4]) rfl ?_
    rw [NodeOut, HR.out]
    refine ⟨_, rfl, OwnL.node ?_, HD7.out.st5 hrl, HO7.out.st5 (Nat.le_refl _)⟩
    have hb2 := HO2'.out.size
    have hb3 := HO3'.out.size
    have hb4 := HO4'.out.size
    have hb6 := HO6'.out.size
    exact ⟨World.ownsRow_nil _ _ _ _, fun x hx => (by cases hx), own_st5 (owns_baseG hb3 HI7.out) HX7.out (by decide), own_st5 (owns_baseG hb2 HK7.out) HX7.out (by decide), own_st5 (owns_baseG hb4 HS7.out) HX7.out (by decide), own_st5 (owns_baseG hb6 HM7.out) HX7.out (by decide)⟩

set_option maxRecDepth 100000 in
set_option maxHeartbeats 8000000 in
theorem nnode_w (C rb : Nat) (s : RS) (w : World) (h : RdN C w rb s) : Calls Tryz.prog 73 #[ptrV rb] w (NodeOut C rb (nodeR s) w) := by
  have hrl := h.lt
  obtain ⟨W1, hW1⟩ : ∃ W1, W1 = w.alloc (.cells #[.slice none 0 0, .slice none 0 0, .slice none 0 0, .slice none 0 0, .slice none 0 0] 34) := ⟨_, rfl⟩
  have HD : Hid (RdN C W1 rb s) := Lib.hid (by rw [hW1]; exact h.alloc _)
  have HX : Hid (Blk W1 w.heap.size 34 #[.slice none 0 0, .slice none 0 0, .slice none 0 0, .slice none 0 0, .slice none 0 0]) := Lib.hid (by rw [hW1]; exact Blk.new _ _ _)
  have HO : Hid (But rb w W1) := Lib.hid (by rw [hW1]; exact (But.refl rb w).alloc _)
  have HW1 := Lib.hid hW1
  have HI : Hid (nodeR s = if (numP 1 s).1 = 76 then (⟨(listP pairR (numP 4 (numP 1 s).2).1 [] (numP 4 (numP 1 s).2).2).1, [], [], [], []⟩, (listP pairR (numP 4 (numP 1 s).2).1 [] (numP 4 (numP 1 s).2).2).2)
    else if (numP 1 s).1 = 78 then innerR (numP 1 s).2 else (noNd, ((numP 1 s).2.1, true))) := Lib.hid rfl
  have hc1 := nnum_w C rb 1 s W1 HD.out (by omega)
  generalize numP 1 s = r1 at *
  obtain ⟨kk, s1⟩ := r1
  simp only at HI hc1
  have HC1 : Hid (Calls Tryz.prog 148 #[ptrV rb, .int .i64 1] W1 fun e w' => e = .returned (.int .i64 (kk : Nat)) ∧ RdN C w' rb s1 ∧ But rb W1 w') := Lib.hid hc1
  clear h hW1 hc1
  by_cases h76 : kk = 76
  · have HR : Hid (nodeR s = _) := Lib.hid (HI.out.trans (if_pos h76))
    subst h76
    clear HI
    go_enter Tryz.func73, Tryz.ntmps73
    go_wp2_with fail
    rw [← HW1.out]
    refine HC1.out.mono ?_
    rintro e w2 ⟨rfl, hr, ho⟩
    have HX2 := Lib.hid (ho.blk HX.out (by omega))
    have HO2 := Lib.hid (HO.out.trans ho)
    have HD2 := Lib.hid hr
    clear ho hr HX HD HO HC1 HW1
    go_wp2_with fail
    have hn4 := numF_small 4 s1 (by omega)
    have hc4 := ncount_w C rb s1 w2 HD2.out
    unfold num4 at hc4
    rw [show numF (takeP 4 s1).1 = (numP 4 s1).1 from rfl] at hn4
    generalize numP 4 s1 = r4 at *
    obtain ⟨mm, s2⟩ := r4
    simp only at HR hc4 hn4
    refine hc4.mono ?_
    clear hc4
    rintro e w3 ⟨rfl, hr, ho⟩
    have HX3 := Lib.hid (ho.blk HX2.out (by omega))
    have HO3 := Lib.hid (HO2.out.trans ho)
    have HD3 := Lib.hid hr
    clear ho hr HX2 HD2 HO2
    go_wp2_with fail
    have hl3 := nlistP_w C rb mm s2 w3 HD3.out hn4
    have htx := listP_pairs mm s2
    unfold ListOut at hl3
    generalize listP pairR mm [] s2 = q3 at *
    obtain ⟨lp, s3⟩ := q3
    simp only at hl3 HR htx
    have HTX := Lib.hid htx
    refine hl3.mono ?_
    clear hl3 htx
    rintro e w4 ⟨vp, rfl, hown, hr, ho⟩
    obtain ⟨pp, cp, rfl, -⟩ := id (IsPairs.owned hown HTX.out)
    have HP4 := Lib.hid (owns_baseG HO3.out.size hown)
    have HX4 := Lib.hid (ho.blk HX3.out (by omega))
    have HO4 := Lib.hid (HO3.out.trans ho)
    have HD4 := Lib.hid hr
    clear ho hr hown HX3 HD3 HO3
    obtain ⟨x0, x1, x2, x3, x4, f0, f1, f2, f3, f4⟩ := five_ok HX4.out
    go_wp2
    refine bodyPost_ret (v := .agg #[.slice pp lp.length cp, .slice none 0 0, .slice none 0 0, .slice none 0 0, .slice none 0 0]) (by simp [results, Tryz.results73, go_sem, x0, x1, x2, x3, x4]) rfl ?_
    rw [NodeOut, HR.out]
    refine ⟨_, rfl, OwnL.node (OwnL.st5 ?_ HX4.out), HD4.out.st5 hrl, HO4.out.st5 (Nat.le_refl _)⟩
    exact ⟨HP4.out, HTX.out, World.ownsRow_nil _ _ _ _, World.ownsRow_nil _ _ _ _, World.ownsRow_nil _ _ _ _, World.ownsRow_nil _ _ _ _⟩
  · have hne1 : ((kk : Int) == 76) = false := by simp; omega
    by_cases h78 : kk = 78
    · have HR : Hid (nodeR s = innerR s1) := Lib.hid ((HI.out.trans (if_neg h76)).trans (if_pos h78))
      subst h78
      clear HI h76 hne1
      go_enter Tryz.func73, Tryz.ntmps73
      go_wp2_with fail
      rw [← HW1.out]
      refine HC1.out.mono ?_
      rintro e w2 ⟨rfl, hr, ho⟩
      have HX2 := Lib.hid (ho.blk HX.out (by omega))
      have HO2 := Lib.hid (HO.out.trans ho)
      have HD2 := Lib.hid hr
      clear ho hr HX HD HO HC1 HW1
      go_wp2_with fail
      have hi2 := ninner_w C rb s1 w2 HD2.out
      unfold NodeOut at hi2
      generalize innerR s1 = q2 at *
      obtain ⟨nd, s2⟩ := q2
      simp only at hi2
      refine hi2.mono ?_
      clear hi2
      rintro e w3 ⟨v3, rfl, hown, hr, ho⟩
      obtain ⟨pa, ca, pb, cb, pc, cc, pd, cd, pe, ce, rfl, hown⟩ := hown
      have HN3 := Lib.hid (hown.base HO2.out.size)
      have HX3 := Lib.hid (ho.blk HX2.out (by omega))
      have HO3 := Lib.hid (HO2.out.trans ho)
      have HD3 := Lib.hid hr
      clear ho hr hown HX2 HD2 HO2
      obtain ⟨x0, x1, x2, x3, x4, f0, f1, f2, f3, f4⟩ := five_ok HX3.out
      go_wp2
      refine bodyPost_ret (v := .agg #[.slice pa nd.pairs.length ca, .slice pb nd.pivots.length cb, .slice pc nd.kids.length cc, .slice pd nd.sums.length cd, .slice pe nd.buf.length ce]) (by simp [results, Tryz.results73, go_sem, x0, x1, x2, x3, x4]) rfl ?_
      rw [NodeOut, HR.out]
      exact ⟨_, rfl, OwnL.node (OwnL.st5 HN3.out HX3.out), HD3.out.st5 hrl, HO3.out.st5 (Nat.le_refl _)⟩
    · have hne2 : ((kk : Int) == 78) = false := by simp; omega
      have HR : Hid (nodeR s = (noNd, (s1.1, true))) := Lib.hid ((HI.out.trans (if_neg h76)).trans (if_neg h78))
      clear HI h76 h78
      go_enter Tryz.func73, Tryz.ntmps73
      go_wp2_with fail
      rw [← HW1.out]
      refine HC1.out.mono ?_
      rintro e w2 ⟨rfl, hr, ho⟩
      have hX2 := ho.blk HX.out (by omega)
      have HO2 := Lib.hid (HO.out.trans ho)
      obtain ⟨hC, p, n, c, hb, hl⟩ := hr
      have r1 := hb.c0 1 _ rfl
      have g1 := hb.free 1
      simp at r1
      have HD2 : Hid (RdN C (w2.setCell ⟨rb, 1, none⟩ (.bool true)) rb (s1.1, true)) := Lib.hid ⟨hC, p, n, c, hb.setCell 1 (.bool true), hl.below ((But.setCell rb 1 (.bool true) w2).below hC hb.lt)⟩
      obtain ⟨x0, x1, x2, x3, x4, f0, f1, f2, f3, f4⟩ := five_ok hX2
      have hne : rb ≠ w.heap.size := by omega
      clear ho hb hl hX2
      go_wp2
      refine bodyPost_ret (v := .agg #[.slice none 0 0, .slice none 0 0, .slice none 0 0, .slice none 0 0, .slice none 0 0]) (by simp [results, Tryz.results73, go_sem, x0, x1, x2, x3, x4]) rfl ?_
      rw [NodeOut, HR.out]
      exact ⟨_, rfl, (OwnL.nil _ _).node, HD2.out.st5 hrl, (HO2.out.trans (But.setCell _ _ _ _)).st5 (Nat.le_refl _)⟩

end Go.Proofs.YtmbfghbhajmpiaaGreat
namespace Go.Proofs.YtmbfghbhajmpiaaGreat
open Go.RowKit Go.Sort
set_option linter.unusedVariables false

theorem nodeR_pairs (s : RS) : (nodeR s).1.pairs.length < 4294967296 := by
  unfold nodeR
  simp only
  split
  · have h1 := listP_le pairR (numP 4 (numP 1 s).2).1 [] (numP 4 (numP 1 s).2).2
    have h2 := numF_small 4 (numP 1 s).2 (by omega)
    have h3 : (numP 4 (numP 1 s).2).1 = numF (takeP 4 (numP 1 s).2).1 := rfl
    simp at h1 ⊢
    omega
  split
  · unfold innerR
    simp only
    split
    · simp [noNd]
    · simp
  · simp [noNd]
theorem parseN_is (b : Bs) (n : Nd) (s : RS) (h : nodeR (b, false) = (n, s)) : parseN b = if s.2 = true ∨ s.1 ≠ [] ∨ validN n ([], []) = false then none else some n := by
  unfold parseN; rw [h]
/-- What Parse hands back. -/
def ParseOut (w : World) (x : Option Nd) (e : Ending) (w' : World) : Prop := ∃ v', e = .returned (.tuple #[v', .int .i64 (if x.isSome then 0 else 100)]) ∧ OwnNode w' w.heap.size v' (x.getD noNd) ∧ Below w.heap.size w w'
theorem below_st5 {B c : Nat} {x y : World} {y0 y1 y2 y3 y4 : Value} (h : Below B x y) (hc : B ≤ c) : Below B x (Go.Proofs.YtmbfghbhajmpiaaGreat.st5 y c y0 y1 y2 y3 y4) :=
  ((((h.setCell (p := ⟨c, 0, none⟩) hc _).setCell (p := ⟨c, 1, none⟩) hc _).setCell (p := ⟨c, 2, none⟩) hc _).setCell (p := ⟨c, 3, none⟩) hc _).setCell (p := ⟨c, 4, none⟩) hc _
theorem five_own {w : World} {B : Nat} {a b c d e : Value} {n : Nd} (h : OwnL w B a b c d e n) : IsNode w (.agg #[a, b, c, d, e]) n := h.node.is

set_option maxRecDepth 100000 in
set_option maxHeartbeats 8000000 in
theorem nparse_w (v : Value) (l : Bs) (w : World) (h : IsBytes w v l) : Calls Tryz.prog 20 #[v] w (ParseOut w (parseN l)) := by
  have mixed := mixedA
  obtain ⟨a0, cap0, hv0, hlc0, hcm0, -⟩ := id h
  subst hv0
  obtain ⟨W1, hW1⟩ : ∃ W1, W1 = (w.alloc (.cells #[.slice none 0 0, .slice none 0 0, .slice none 0 0, .slice none 0 0, .slice none 0 0] 34)).alloc (.cells #[.slice a0 l.length cap0, .bool false] 123) := ⟨_, rfl⟩
  have hbw : Below w.heap.size w W1 := by rw [hW1]; exact (below_box _).alloc (by simp) _
  have HX : Hid (Blk W1 w.heap.size 34 #[.slice none 0 0, .slice none 0 0, .slice none 0 0, .slice none 0 0, .slice none 0 0]) := Lib.hid (by rw [hW1]; exact (Blk.new _ _ _).alloc _)
  have HD : Hid (RdN w.heap.size W1 (w.heap.size + 1) (l, false)) := Lib.hid ⟨by omega, a0, l.length, cap0, by rw [hW1]; exact Blk.new' _ _ _ (by simp), (h.inB (Nat.le_refl _)).below hbw⟩
  have HW1 := Lib.hid hW1
  have HBW := Lib.hid hbw
  have hpl := nodeR_pairs (l, false)
  have hn := nnode_w w.heap.size (w.heap.size + 1) (l, false) W1 HD.out
  have hP := parseN_is l
  obtain ⟨nd, s2, hs⟩ : ∃ nd s2, nodeR (l, false) = (nd, s2) := ⟨_, _, rfl⟩
  have HP : Hid (parseN l = _) := Lib.hid (hP nd s2 hs)
  unfold NodeOut at hn
  rw [hs] at hpl hn
  simp only at hpl hn
  have HN := Lib.hid hn
  unfold maxLen at hcm0
  clear hn hP hs hW1 hbw h
  obtain ⟨l2, sh⟩ := s2
  go_enter Tryz.func20, Tryz.ntmps20
  go_wp2_with fail
  rw [← HW1.out]
  refine HN.out.mono ?_
  rintro e w2 ⟨v2, rfl, hown, hr, ho⟩
  obtain ⟨pa, ca, pb, cb, pc, cc, pd, cd, pe, ce, rfl, hown⟩ := hown
  have hlt1 : w.heap.size + 1 < W1.heap.size := HD.out.lt
  have hX2 := ho.blk HX.out (by omega)
  have hB2 : Below w.heap.size w w2 := HBW.out.trans (ho.below (by omega) hlt1)
  have hs2 := ho.size
  have HO2 := Lib.hid (((hown.base (C := w.heap.size) (by omega)).alloc (.cells #[.slice pa nd.pairs.length ca, .slice pb nd.pivots.length cb, .slice pc nd.kids.length cc, .slice pd nd.sums.length cd, .slice pe nd.buf.length ce] 34)))
  have HX2 := Lib.hid (hX2.alloc (.cells #[.slice pa nd.pairs.length ca, .slice pb nd.pivots.length cb, .slice pc nd.kids.length cc, .slice pd nd.sums.length cd, .slice pe nd.buf.length ce] 34))
  have HY2 : Hid (Blk (w2.alloc (.cells #[.slice pa nd.pairs.length ca, .slice pb nd.pivots.length cb, .slice pc nd.kids.length cc, .slice pd nd.sums.length cd, .slice pe nd.buf.length ce] 34)) w2.heap.size 34 #[.slice pa nd.pairs.length ca, .slice pb nd.pivots.length cb, .slice pc nd.kids.length cc, .slice pd nd.sums.length cd, .slice pe nd.buf.length ce]) := Lib.hid (Blk.new _ _ _)
  have HB2 := Lib.hid (hB2.alloc (by omega) (.cells #[.slice pa nd.pairs.length ca, .slice pb nd.pivots.length cb, .slice pc nd.kids.length cc, .slice pd nd.sums.length cd, .slice pe nd.buf.length ce] 34))
  obtain ⟨-, pr, nr, cr, hb, hl⟩ := hr
  obtain ⟨a3, cap3, he3, hlc3, hcm3, -⟩ := id hl
  cases he3
  simp only at hb
  have r0 : w2.cell? ⟨w.heap.size + 1, 0, none⟩ = some (.slice pr l2.length cr) := hb.c0 0 _ rfl
  have r1 : w2.cell? ⟨w.heap.size + 1, 1, none⟩ = some (.bool sh) := hb.c0 1 _ rfl
  have hlt2 : w.heap.size + 1 < w2.heap.size := by omega
  unfold maxLen at hcm3
  have HV := Lib.hid (fun wx (hx : Below (w2.alloc (.cells #[.slice pa nd.pairs.length ca, .slice pb nd.pivots.length cb, .slice pc nd.kids.length cc, .slice pd nd.sums.length cd, .slice pe nd.buf.length ce] 34)).heap.size (w2.alloc (.cells #[.slice pa nd.pairs.length ca, .slice pb nd.pivots.length cb, .slice pc nd.kids.length cc, .slice pd nd.sums.length cd, .slice pe nd.buf.length ce] 34)) wx) => nvalid_w _ nd ([], []) wx ((five_own HO2.out).below hx) (by omega))
  clear ho hown hX2 hB2 hb hl HN HX HD HW1 HBW
  cases sh with
  | true =>
    have HR : Hid (parseN l = none) := Lib.hid (HP.out.trans (if_pos (.inl rfl)))
    clear HP
    obtain ⟨x0, x1, x2, x3, x4, f0, f1, f2, f3, f4⟩ := five_ok HX2.out
    go_wp2
    refine bodyPost_ret (v := .tuple #[.agg #[.slice none 0 0, .slice none 0 0, .slice none 0 0, .slice none 0 0, .slice none 0 0], .int .i64 100]) (by simp [results, Tryz.results20, go_sem, x0, x1, x2, x3, x4]) rfl ?_
    rw [ParseOut, HR.out]
    exact ⟨_, rfl, (OwnL.nil _ _).node, below_st5 HB2.out (Nat.le_refl _)⟩
  | false =>
    by_cases hl2 : l2 = []
    rotate_left
    · have HR : Hid (parseN l = none) := Lib.hid (HP.out.trans (if_pos (.inr (.inl hl2))))
      have hp1 := len_pos hl2
      have hp2 := len_posN hl2
      clear HP hl2
      obtain ⟨x0, x1, x2, x3, x4, f0, f1, f2, f3, f4⟩ := five_ok HX2.out
      go_wp2
      refine bodyPost_ret (v := .tuple #[.agg #[.slice none 0 0, .slice none 0 0, .slice none 0 0, .slice none 0 0, .slice none 0 0], .int .i64 100]) (by simp [results, Tryz.results20, go_sem, x0, x1, x2, x3, x4]) rfl ?_
      rw [ParseOut, HR.out]
      exact ⟨_, rfl, (OwnL.nil _ _).node, below_st5 HB2.out (Nat.le_refl _)⟩
    subst hl2
    obtain ⟨y0, y1, y2, y3, y4, -, -, -, -, -⟩ := five_ok HY2.out
    cases hv : validN nd ([], []) with
    | false =>
      have HR : Hid (parseN l = none) := Lib.hid (HP.out.trans (if_pos (.inr (.inr hv))))
      rw [hv] at HV
      clear HP hv
      go_wp2_with fail
      refine (HV.out _ (Below.refl _ _)).mono ?_
      rintro e w3 ⟨rfl, hg⟩
      have hb3 := hg.below (B := (w2.alloc (.cells #[.slice pa nd.pairs.length ca, .slice pb nd.pivots.length cb, .slice pc nd.kids.length cc, .slice pd nd.sums.length cd, .slice pe nd.buf.length ce] 34)).heap.size) (Nat.le_refl _)
      obtain ⟨x0, x1, x2, x3, x4, f0, f1, f2, f3, f4⟩ := five_ok (HX2.out.below hb3 HX2.out.lt)
      have HB3 : Hid (Below w.heap.size w w3) := Lib.hid (HB2.out.trans (hb3.mono (by simp; omega)))
      clear hg hb3 y0 y1 y2 y3 y4 r0 r1
      go_wp2
      refine bodyPost_ret (v := .tuple #[.agg #[.slice none 0 0, .slice none 0 0, .slice none 0 0, .slice none 0 0, .slice none 0 0], .int .i64 100]) (by simp [results, Tryz.results20, go_sem, x0, x1, x2, x3, x4]) rfl ?_
      rw [ParseOut, HR.out]
      exact ⟨_, rfl, (OwnL.nil _ _).node, below_st5 HB3.out (Nat.le_refl _)⟩
    | true =>
      have HR : Hid (parseN l = some nd) := Lib.hid (HP.out.trans (if_neg (by simp [hv])))
      rw [hv] at HV
      clear HP hv
      go_wp2_with fail
      refine (HV.out _ (Below.refl _ _)).mono ?_
      rintro e w3 ⟨rfl, hg⟩
      have hb3 := hg.below (B := (w2.alloc (.cells #[.slice pa nd.pairs.length ca, .slice pb nd.pivots.length cb, .slice pc nd.kids.length cc, .slice pd nd.sums.length cd, .slice pe nd.buf.length ce] 34)).heap.size) (Nat.le_refl _)
      have HX3 := Lib.hid (HX2.out.below hb3 HX2.out.lt)
      obtain ⟨x0, x1, x2, x3, x4, f0, f1, f2, f3, f4⟩ := five_ok HX3.out
      have HB3 : Hid (Below w.heap.size w w3) := Lib.hid (HB2.out.trans (hb3.mono (by simp; omega)))
      have HO3 := Lib.hid (HO2.out.grown hb3)
      clear y0 y1 y2 y3 y4
      obtain ⟨y0, y1, y2, y3, y4, -, -, -, -, -⟩ := five_ok (HY2.out.below hb3 HY2.out.lt)
      clear hg hb3 r0 r1
      go_wp2
      refine bodyPost_ret (v := .tuple #[.agg #[.slice pa nd.pairs.length ca, .slice pb nd.pivots.length cb, .slice pc nd.kids.length cc, .slice pd nd.sums.length cd, .slice pe nd.buf.length ce], .int .i64 0]) (by simp [results, Tryz.results20, go_sem, x0, x1, x2, x3, x4]) rfl ?_
      rw [ParseOut, HR.out]
      exact ⟨_, rfl, OwnL.node (HO3.out.st5 HX3.out), below_st5 HB3.out (Nat.le_refl _)⟩

end Go.Proofs.YtmbfghbhajmpiaaGreat

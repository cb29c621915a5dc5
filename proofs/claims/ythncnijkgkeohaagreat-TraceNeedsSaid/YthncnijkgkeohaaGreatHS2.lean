/-
  Walks: keys in a span; keys moved.
-/
import Derived.Test.YthncnijkgkeohaaGreatHS
import Derived.Test.YthncnijkgkeohaaGreatHP
namespace Go.Proofs.YthncnijkgkeohaaGreat
open Go.RowKit Go.Sort
set_option linter.unusedVariables false

theorem inS_append (a b : List Sp) (s : Sp) : inS (a ++ b) s = inS a s ++ inS b s := by unfold inS; rw [List.filterMap_append]
theorem inS_none {a : List Sp} {s : Sp} (h : ∀ x ∈ a, ∀ k, HasS x k → ¬ HasS s k) : inS a s = [] := by
  unfold inS
  rw [List.filterMap_eq_nil_iff]
  intro x hx
  unfold partS
  rw [if_pos]
  cases he : emptyB (meetS x s) with
  | true => rfl
  | false =>
    obtain ⟨h1, h2⟩ := (meet_has x s _).1 (has_lo he)
    exact absurd h2 (h x hx _ h1)
theorem in_mid {D : List Sp} (hn : Nrm D) (s : Sp) : inS D s = inS (midS D s) s := by
  obtain ⟨n1, n2, n3, n4⟩ := near_split hn s
  have hd := near_parts D s
  conv => lhs; rw [← hd]
  rw [inS_append, inS_append, inS_none (a := D.take (fromS D s)) ?_, inS_none (a := D.drop (toS D s)) ?_]
  · simp
  · rintro x hx k ⟨h1, h2⟩ ⟨h3, h4⟩
    have := n3 x hx
    grind
  · rintro x hx k ⟨h1, h2⟩ ⟨h3, h4⟩
    have := n1 x hx
    grind
theorem inS_len (a : List Sp) (s : Sp) : (inS a s).length ≤ a.length := List.length_filterMap_le _ _
theorem inS_take {mid : List Sp} {s : Sp} {k : Nat} (h : k < mid.length) : inS (mid.take (k + 1)) s = inS (mid.take k) s ++ (if emptyB (meetS mid[k] s) then [] else [meetS mid[k] s]) := by
  rw [List.take_succ_eq_append_getElem h, inS_append]
  congr 1
  unfold inS partS
  cases he : emptyB (meetS mid[k] s) <;> simp [he]
theorem movedV_eq (k a b : Bs) : movedV k a b = .tuple #[.string (Str ((movedS k a b).getD [])), .bool (movedS k a b).isSome] := by
  unfold movedV
  cases movedS k a b <;> rfl

set_option maxRecDepth 100000 in
set_option maxHeartbeats 4000000 in
theorem kin_w (v : Value) (D : List Sp) (s : Sp) (w : World) (hv : IsSpans w v D) (hn : Nrm D) (hl : D.length ≤ 400) :
    Calls Tryz.prog 100 #[v, strS s] w (OutS w.heap.size w (inS D s)) := by
  have mixed := mixedA
  obtain ⟨pd, capd, rfl, hnd, hmd, hpd⟩ := id hv
  unfold maxLen at hmd
  clear hpd
  have HV := Lib.hid hv
  have HN := Lib.hid (fun wx (hx : Below w.heap.size w wx) => near_w _ D s wx (hv.below hx) hn (by omega))
  have hab := fromS_le D s
  have hbl2 := toS_le D s
  have hmid : IsSpans w (sliced pd (fromS D s) (toS D s) capd 2) (midS D s) := spans_sliced hv _ _ hab hbl2
  have hmlen : (midS D s).length ≤ D.length := by unfold midS; rw [List.length_drop, List.length_take]; omega
  have hsl := slice_lhD pd D.length capd (fromS D s) (toS D s) hab (by omega)
  obtain ⟨pm, cm, hvm, hmc, hmm, -⟩ := id hmid
  rw [hvm] at hsl hmid
  unfold maxLen at hmm
  have HMID := Lib.hid hmid
  have HIN : Hid (inS D s = inS (midS D s) s) := Lib.hid (in_mid hn s)
  rw [HIN.out]
  clear hvm hmid hn hv HIN
  generalize midS D s = mid at *
  generalize fromS D s = fa at *
  generalize toS D s = fb at *
  obtain ⟨lo, hi⟩ := s
  simp only [strS] at HN ⊢
  have hbw : Below w.heap.size w (w.alloc (.cells #[.string (Str lo), .string (Str hi)] 29)) := below_box _
  have HBW := Lib.hid hbw
  clear hbw
  go_enter Tryz.func100, Tryz.ntmps100
  go_wp2_with (go_at_call 124; refine (HN.out _ HBW.out).mono ?_; rintro e w2 ⟨rfl, hg2⟩; have HG2 := Lib.hid hg2; clear hg2)
  have hB2 : Blk w2 w.heap.size 29 #[.string (Str lo), .string (Str hi)] := HG2.out.blk (Blk.new _ _ _)
  have hb2 : Below w.heap.size w w2 := HBW.out.trans (HG2.out.below (by simp))
  have HB2 := Lib.hid hB2
  have Hb2 := Lib.hid hb2
  have hlt2 := hB2.lt
  have HME := Lib.hid (fun x wx => meet_w x (lo, hi) wx)
  have HEM := Lib.hid (fun (x : Sp) wx => empty_w x.1 x.2 wx)
  clear hB2 hb2
  go_loopw [7, 22] (fun v i wr => ∃ k : Nat, k ≤ mid.length ∧ i = .int .i64 k ∧ wr.ownsRow w2.heap.size 29 2 v (inS (mid.take k) (lo, hi)).length ((inS (mid.take k) (lo, hi)).flatMap encS) ∧ Below w2.heap.size w2 wr) (fun _ i _ => mid.length - (intOf i).toNat)
  case atStart => exact ⟨0, Nat.zero_le _, rfl, World.ownsRow_nil _ _ _ _, Below.refl _ _⟩
  case round =>
    obtain ⟨k, hk, rfl, hown, hbel⟩ := hrel
    have Hown := Lib.hid hown
    have Hbel := Lib.hid hbel
    have hsz := hbel.size
    clear hown hbel
    by_cases hlt : k < mid.length
    · obtain ⟨b, off, cap', he, hbl, hlz, x0, x1⟩ := span_cells (HMID.out.below (Hb2.out.trans (Hbel.out.mono Hb2.out.size))) k hlt
      injection he with he1 he2 he3
      subst he1 he3
      clear he2
      have hltz : (k : Int) < (mid.length : Int) := by omega
      have HT := Lib.hid (inS_take (s := (lo, hi)) hlt)
      have hll : (inS (mid.take k) (lo, hi)).length ≤ 400 := by have h1 := inS_len (mid.take k) (lo, hi); rw [List.length_take] at h1; omega
      have hBr : Blk wr w.heap.size 29 #[.string (Str lo), .string (Str hi)] := HB2.out.below Hbel.out hlt2
      have hwl : w.heap.size < wr.heap.size := Nat.lt_of_lt_of_le hlt2 hsz
      have s0 := hBr.c0 0 _ rfl
      have s1 := hBr.c0 1 _ rfl
      clear hBr
      generalize mid[k] = x at *
      generalize inS (mid.take k) (lo, hi) = L at *
      obtain ⟨x1', x2'⟩ := x
      have HMX := Lib.hid (HME.out (x1', x2'))
      obtain ⟨⟨y1, y2⟩, hy⟩ : ∃ y, y = meetS (x1', x2') (lo, hi) := ⟨_, rfl⟩
      rw [← hy] at HT HMX
      have HEX := Lib.hid (HEM.out (y1, y2))
      clear hy HME HEM
      simp only [strS] at HMX x0 x1
      generalize hem : emptyB (y1, y2) = em at *
      clear hem
      cases em
      · rw [if_neg (by simp)] at HT
        go_wp2_with (first
          | (go_at_call 126; refine (HMX.out _).mono ?_; rintro e w3 ⟨rfl, hg3⟩; have HG3 : Hid (Below wr.heap.size wr w3) := Lib.hid ((below_box _).trans (hg3.below (by simp))); clear hg3)
          | (go_at_call 127; refine (HEX.out _).mono ?_; rintro e w4 ⟨rfl, hg4⟩; have hb4 : Blk w4 w3.heap.size 29 #[.string (Str y1), .string (Str y2)] := hg4.blk (Blk.new _ _ _); have p0 := hb4.c0 0 _ rfl; have p1 := hb4.c0 1 _ rfl; have HG4 : Hid (Below wr.heap.size wr w4) := Lib.hid (HG3.out.trans (((below_box _).trans (hg4.below (by simp))).mono HG3.out.size)); clear hg4 hb4)
          | (at_builtin; refine append_deads rfl _ _ rfl w2.heap.size _ L rfl (owns_below Hown.out (HG4.out.trans ((below_box _).mono HG4.out.size))) _ [(y1, y2)] rfl (one_spans (y1, y2) _ rfl) (by simp; omega) (by have := HG4.out.size; simp; omega) ?_; intro v' w5 hown5 hbel5; have Ho5 := Lib.hid hown5; have Hb5 := Lib.hid ((Hbel.out.trans (HG4.out.mono hsz)).trans (((below_box _).mono (Nat.le_trans hsz HG4.out.size)).trans hbel5)); clear hown5 hbel5))
        go_roundw
        case rel => exact ⟨k + 1, by omega, by go_num, by rw [HT.out]; exact Ho5.out, Hb5.out⟩
        case measure => simp [intOf]; omega
      · rw [if_pos rfl] at HT
        go_wp2_with (first
          | (go_at_call 126; refine (HMX.out _).mono ?_; rintro e w3 ⟨rfl, hg3⟩; have HG3 : Hid (Below wr.heap.size wr w3) := Lib.hid ((below_box _).trans (hg3.below (by simp))); clear hg3)
          | (go_at_call 127; refine (HEX.out _).mono ?_; rintro e w4 ⟨rfl, hg4⟩; have HG4 : Hid (Below wr.heap.size wr w4) := Lib.hid (HG3.out.trans (((below_box _).trans (hg4.below (by simp))).mono HG3.out.size)); clear hg4))
        go_roundw
        case rel => exact ⟨k + 1, by omega, by go_num, by rw [HT.out, List.append_nil]; exact owns_below Hown.out HG4.out, Hbel.out.trans (HG4.out.mono hsz)⟩
        case measure => simp [intOf]; omega
    · obtain rfl : k = mid.length := by omega
      rw [List.take_length] at Hown
      go_wp2
      go_ret
      exact ⟨_, rfl, owns_lower Hown.out (by omega), Hb2.out.trans (Hbel.out.mono Hb2.out.size)⟩

set_option maxRecDepth 100000 in
set_option maxHeartbeats 4000000 in
theorem kmoved_w (v : Value) (D : List Sp) (a b : Bs) (w : World) (hv : IsSpans w v D) (hl : D.length ≤ 400) (ha : a.length ≤ 1000000000) (hb : b.length ≤ 1000000000) (hd : ∀ x ∈ D, x.1.length ≤ 140737488355328 ∧ x.2.length ≤ 140737488355328) :
    Calls Tryz.prog 101 #[v, .string (Str a), .string (Str b)] w (OutS w.heap.size w (D.map (movedSp a b))) := by
  have mixed := mixedA
  obtain ⟨pd, capd, rfl, hnd, hmd, hpd⟩ := id hv
  unfold maxLen at hmd
  clear hpd
  have HV := Lib.hid hv
  clear hv
  have HMV := Lib.hid (fun (k : Bs) wx (hk : k.length ≤ 140737488355328) => moved_w k a b wx hk (by omega))
  have HPX := Lib.hid (fun wx => prefix_w b wx (by omega))
  have hfd : ∀ w : World, (Instr.field 29 (.agg #[.string (Str b), .string (Str (preT b))]) 1).run Tryz.prog w = .ok (.string (Str (preT b))) w := fun _ => by kernel_rfl
  have HD := Lib.hid hd
  clear hd
  go_enter Tryz.func101, Tryz.ntmps101
  go_wp2
  go_loopw [7, 16] (fun v i wr => ∃ k : Nat, k ≤ D.length ∧ i = .int .i64 k ∧ wr.ownsRow w.heap.size 29 2 v ((D.take k).map (movedSp a b)).length (((D.take k).map (movedSp a b)).flatMap encS) ∧ Below w.heap.size w wr) (fun _ i _ => D.length - (intOf i).toNat)
  case atStart => exact ⟨0, Nat.zero_le _, rfl, World.ownsRow_nil _ _ _ _, Below.refl _ _⟩
  case round =>
    obtain ⟨k, hk, rfl, hown, hbel⟩ := hrel
    have Hown := Lib.hid hown
    have Hbel := Lib.hid hbel
    have hsz := hbel.size
    clear hown hbel
    by_cases hlt : k < D.length
    · obtain ⟨bb, off, cap', he, hbl, hlz, x0, x1⟩ := span_cells (HV.out.below Hbel.out) k hlt
      injection he with he1 he2 he3
      subst he1 he3
      clear he2
      have hltz : (k : Int) < (D.length : Int) := by omega
      have HT := Lib.hid (show (D.take (k + 1)).map (movedSp a b) = (D.take k).map (movedSp a b) ++ [movedSp a b D[k]] by rw [List.take_succ_eq_append_getElem hlt, List.map_append]; rfl)
      have hll : ((D.take k).map (movedSp a b)).length ≤ 400 := by rw [List.length_map, List.length_take]; omega
      have hdk := HD.out D[k] (List.getElem_mem hlt)
      generalize D[k] = x at *
      generalize (D.take k).map (movedSp a b) = L at *
      obtain ⟨x1', x2'⟩ := x
      have HM1 := Lib.hid (fun wx => HMV.out x1' wx hdk.1)
      have HM2 := Lib.hid (fun wx => HMV.out x2' wx hdk.2)
      obtain ⟨⟨lo, hi⟩, hy⟩ : ∃ y, y = movedSp a b (x1', x2') := ⟨_, rfl⟩
      rw [← hy] at HT
      have hlo : (movedS x1' a b).getD [] = lo := (congrArg Prod.fst hy).symm
      have hhi : (movedS x2' a b).getD (preT b) = hi := (congrArg Prod.snd hy).symm
      simp only [movedV_eq, hlo] at HM1 HM2
      dsimp only at x0 x1
      clear hdk hy hlo
      generalize (movedS x1' a b).isSome = ok1 at *
      cases hm : movedS x2' a b with
      | some hi' =>
        rw [hm] at hhi HM2
        simp only [Option.getD_some, Option.isSome_some] at hhi HM2
        subst hhi
        clear hm
        go_wp2_with (first
          | (go_at_call 83; refine (HM1.out _).mono ?_; rintro e w3 ⟨rfl, hg3⟩; have hb3 : Blk w3 wr.heap.size 29 #[.string (Str x1'), .string (Str x2')] := hg3.blk (Blk.new _ _ _); have p0 := hb3.c0 0 _ rfl; have p1 := hb3.c0 1 _ rfl; have HG3 : Hid (Below wr.heap.size wr w3) := Lib.hid ((below_box _).trans (hg3.below (by simp))); clear hg3 hb3 HM1)
          | (go_at_call 83; refine (HM2.out _).mono ?_; rintro e w4 ⟨rfl, hg4⟩; have HG4 : Hid (Below wr.heap.size wr w4) := Lib.hid (HG3.out.trans (hg4.below HG3.out.size)); clear hg4)
          | (at_builtin; refine append_deads rfl _ _ rfl w.heap.size _ L rfl (owns_below Hown.out (HG4.out.trans ((below_box _).mono HG4.out.size))) _ [(lo, hi')] rfl (one_spans (lo, hi') _ rfl) (by simp; omega) (by have := HG4.out.size; simp; omega) ?_; intro v' w5 hown5 hbel5; have Ho5 := Lib.hid hown5; have Hb5 := Lib.hid ((Hbel.out.trans (HG4.out.mono hsz)).trans (((below_box _).mono (Nat.le_trans hsz HG4.out.size)).trans hbel5)); clear hown5 hbel5))
        go_roundw
        case rel => exact ⟨k + 1, by omega, by go_num, by rw [HT.out]; exact Ho5.out, Hb5.out⟩
        case measure => simp [intOf]; omega
      | none =>
        rw [hm] at hhi HM2
        simp only [Option.getD_none, Option.isSome_none] at hhi HM2
        subst hhi
        clear hm
        go_wp2_with (first
          | (go_at_call 83; refine (HM1.out _).mono ?_; rintro e w3 ⟨rfl, hg3⟩; have hb3 : Blk w3 wr.heap.size 29 #[.string (Str x1'), .string (Str x2')] := hg3.blk (Blk.new _ _ _); have p0 := hb3.c0 0 _ rfl; have p1 := hb3.c0 1 _ rfl; have HG3 : Hid (Below wr.heap.size wr w3) := Lib.hid ((below_box _).trans (hg3.below (by simp))); clear hg3 hb3 HM1)
          | (go_at_call 83; refine (HM2.out _).mono ?_; rintro e w4 ⟨rfl, hg4⟩; have HG4 : Hid (Below wr.heap.size wr w4) := Lib.hid (HG3.out.trans (hg4.below HG3.out.size)); clear hg4)
          | (go_at_call 99; refine (HPX.out _).mono ?_; rintro e w6 ⟨rfl, hg6⟩; have HG6 : Hid (Below wr.heap.size wr w6) := Lib.hid (HG4.out.trans (hg6.below HG4.out.size)); clear hg6)
          | (at_builtin; refine append_deads rfl _ _ rfl w.heap.size _ L rfl (owns_below Hown.out (HG6.out.trans ((below_box _).mono HG6.out.size))) _ [(lo, preT b)] rfl (one_spans (lo, preT b) _ rfl) (by simp; omega) (by have := HG6.out.size; simp; omega) ?_; intro v' w5 hown5 hbel5; have Ho5 := Lib.hid hown5; have Hb5 := Lib.hid ((Hbel.out.trans (HG6.out.mono hsz)).trans (((below_box _).mono (Nat.le_trans hsz HG6.out.size)).trans hbel5)); clear hown5 hbel5))
        go_roundw
        case rel => exact ⟨k + 1, by omega, by go_num, by rw [HT.out]; exact Ho5.out, Hb5.out⟩
        case measure => simp [intOf]; omega
    · obtain rfl : k = D.length := by omega
      rw [List.take_length] at Hown
      go_wp2
      go_ret
      exact ⟨_, rfl, Hown.out, Hbel.out⟩

end Go.Proofs.YthncnijkgkeohaaGreat

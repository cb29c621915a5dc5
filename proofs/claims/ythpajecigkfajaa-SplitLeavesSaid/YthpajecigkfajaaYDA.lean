/-
  Walks: reference 02's Pivots of many texts; plain nodes as reference 10 makes them.
-/
import Derived.Test.YthpajecigkfajaaY6
import Derived.Test.YthpajecigkfajaaGC
import Derived.Test.YthpajecigkfajaaNDX
import Derived.Test.YthpajecigkfajaaNQJ
namespace Go.Proofs.Ythpajecigkfajaa
open Go.RowKit Go.Sort
set_option linter.unusedVariables false

set_option maxRecDepth 100000 in
set_option maxHeartbeats 4000000 in
theorem pivotsG_w (v : Value) (l : List Bs) (w : World) (h : IsStrs w v l) (hl : l.length ≤ 2000000) :
    Calls Try.prog 22 #[v] w fun e w' => ∃ v', e = .returned v' ∧ IsStrs w' v' (pivF [] l) ∧ Below w.heap.size w w' := by
  have mixed := mixedA
  obtain ⟨g, off, cap, p, rfl, hlc, hcm, hpp, hcc⟩ := h.form
  unfold maxLen at hcm
  have HP := Lib.hid hpp
  have HC := Lib.hid hcc
  clear h hpp hcc
  go_enter Try.func22, Try.ntmps22
  go_wp2
  go_loopw [3, 4] (fun vo i wr => ∃ (k : Nat) (out : List Bs), k ≤ l.length ∧ i = .int .i64 k ∧ Hid (IsStrs wr vo out) ∧ Hid (out = pivF [] (l.take k)) ∧ out.length ≤ k ∧ Below w.heap.size w wr) (fun _ i _ => l.length - (intOf i).toNat)
  case atStart => exact ⟨0, [], Nat.zero_le _, rfl, Lib.hid (IsStrs.owned (own_emptyK w w.heap.size (Nat.le_refl _))), Lib.hid rfl, Nat.le_refl _, below_box _⟩
  case round =>
    obtain ⟨k, out, hk, rfl, Hout, Hpiv, hol, hbel⟩ := hrel
    have Hbel := Lib.hid hbel
    clear hbel
    by_cases hlt : k < l.length
    · have hltz : (k : Int) < (l.length : Int) := by omega
      have hdk : decide (k < l.length) = true := by simp; omega
      obtain ⟨rfl, c0⟩ := HC.out k hlt
      have hgl := (HP.out (by rintro rfl; simp at hlt)).2
      have c0 := (Hbel.out.cell (p := ⟨g, off + k, none⟩) (by exact hgl)).trans c0
      have hgw : g < wr.heap.size := Nat.lt_of_lt_of_le hgl Hbel.out.size
      have Hp2 := Lib.hid (pivF_take l [] k hlt)
      obtain ⟨go, oo, capo, po, rfl, hoc, hom, hop, hocc⟩ := Hout.out.form
      unfold maxLen at hom
      have HOP := Lib.hid hop
      have HOC := Lib.hid hocc
      clear hop hocc
      generalize l[k] = x at *
      obtain ⟨w7, hw7⟩ : ∃ w7 : World, w7 = wr := ⟨_, rfl⟩
      subst hw7
      have H0 := Lib.hid c0
      go_wp2
      go_cut [5, 6] (fun s5 s6 wx => s6 = .bool x.isEmpty ∧ Hid (wx.ownsRow w7.heap.size 9 1 s5 ([] : List Bs).length (cellsK [])) ∧ Below w7.heap.size w7 wx)
      case first =>
        cases hx : x with
        | nil =>
          subst hx
          go_region
          all_goals (go_wp2_with fail; go_meet)
          all_goals exact ⟨rfl, Lib.hid (own_emptyK w7 _ (Nat.le_refl _)).drew, (below_box _).drew⟩
        | cons a r =>
          rw [hx] at c0
          go_region
          all_goals (go_wp2_with fail; go_meet)
          all_goals exact ⟨by rw [hx]; rfl, Lib.hid (own_emptyK w7 _ (Nat.le_refl _)).drew, (below_box _).drew⟩
      case rest =>
        obtain ⟨rfl, Hown1, hb1⟩ := hcut
        have HB1 := Lib.hid hb1
        clear hb1 c0
        go_wp2
        go_loopw [5, 6, 7] (fun vn d i wz => ∃ (j : Nat) (acc : List Bs) (dB : Bool), j ≤ out.length ∧ i = .int .i64 j ∧ d = .bool dB ∧ Hid (wz.ownsRow w7.heap.size 9 1 vn acc.length (cellsK acc)) ∧ Hid (acc ++ insP x dB (out.drop j) = insP x x.isEmpty out) ∧ acc.length ≤ 2 * j ∧ Below w7.heap.size w7 wz) (fun _ _ i _ => out.length - (intOf i).toNat)
        case atStart => exact ⟨0, [], x.isEmpty, Nat.zero_le _, rfl, rfl, Hown1, Lib.hid rfl, Nat.le_refl _, HB1.out⟩
        case round =>
          clear Hown1 HB1
          obtain ⟨j, acc, dB, hj, rfl, rfl, Hown, Hacc, hacl, hb7⟩ := hrel
          have H7 := Lib.hid hb7
          have c0 := (hb7.cell (p := ⟨g, off + k, none⟩) (by exact hgw)).trans H0.out
          clear hb7
          by_cases hj2 : j < out.length
          · have hjz : (j : Int) < (out.length : Int) := by omega
            have hdj : decide (j < out.length) = true := by simp; omega
            obtain ⟨rfl, d0⟩ := HOC.out j hj2
            have hgo := (HOP.out (by rintro rfl; simp at hj2)).2
            have Hd := Lib.hid d0
            have d0 := (H7.out.cell (p := ⟨go, oo + j, none⟩) (by exact hgo)).trans d0
            have hE := insP_app x dB acc out j hj2
            rw [Hacc.out] at hE
            generalize out[j] = q at *
            cases dB with
            | true =>
              have HE : Hid ((acc ++ [q]) ++ insP x true (out.drop (j + 1)) = insP x x.isEmpty out) := Lib.hid hE.symm
              clear hE Hacc
              go_wp2_with fail
              go_quiet (fail)
              go_wp2_with (at_builtin; refine append_strs rfl _ _ rfl w7.heap.size _ acc rfl ((own_drewN Hown.out _).alloc _) _ [q] rfl (one_strs (by first | rfl | simp) q) (by simp; omega) (size_box _ H7.out.size) ?_; intro v8 w8 hown hb; have Hown8 := Lib.hid hown; have H8 : Hid (Below w7.heap.size w7 w8) := Lib.hid (((H7.out.trans (below_drewN _ _)).alloc H7.out.size _).trans hb); clear hown hb)
              go_wp2
              go_roundw
              case rel => exact ⟨j + 1, acc ++ [q], true, by omega, by go_num, rfl, Hown8, HE, by simp; omega, H8.out⟩
              case measure => simp [intOf]; omega
            | false =>
              cases h1 : Op.bytesLess q x with
              | true =>
                have HE : Hid ((acc ++ [q]) ++ insP x false (out.drop (j + 1)) = insP x x.isEmpty out) := Lib.hid (by rw [h1] at hE; exact hE.symm)
                have h2 : Op.bytesLess x q = false := by
                  cases h : Op.bytesLess x q with
                  | false => rfl
                  | true => have := less_trans _ _ _ h h1; rw [less_irrefl] at this; cases this
                have h3 : (x == q) = false := by
                  rw [beq_eq_false_iff_ne]; rintro rfl; rw [less_irrefl] at h1; cases h1
                clear hE Hacc
                go_wp2_with fail
                go_quiet (fail)
                go_wp2_with (at_builtin; refine append_strs rfl _ _ rfl w7.heap.size _ acc rfl ((own_drewN Hown.out _).alloc _) _ [q] rfl (one_strs (by first | rfl | simp) q) (by simp; omega) (size_box _ H7.out.size) ?_; intro v8 w8 hown hb; have Hown8 := Lib.hid hown; have H8 : Hid (Below w7.heap.size w7 w8) := Lib.hid (((H7.out.trans (below_drewN _ _)).alloc H7.out.size _).trans hb); clear hown hb)
                go_wp2
                go_roundw
                case rel => exact ⟨j + 1, acc ++ [q], false, by omega, by go_num, rfl, Hown8, HE, by simp; omega, H8.out⟩
                case measure => simp [intOf]; omega
              | false =>
                cases h2 : Op.bytesLess x q with
                | true =>
                  have HE : Hid ((acc ++ [x] ++ [q]) ++ insP x true (out.drop (j + 1)) = insP x x.isEmpty out) := Lib.hid (by rw [h1, h2] at hE; exact hE.symm)
                  clear hE Hacc
                  go_wp2_with fail
                  go_quiet (fail)
                  go_wp2_with fail
                  go_quiet (fail)
                  go_wp2_with (first
                    | (at_builtin; refine append_strs rfl _ _ rfl w7.heap.size _ acc rfl ((own_drewN Hown.out _).alloc _) _ [x] rfl (one_strs (by first | rfl | simp) x) (by simp; omega) (size_box _ H7.out.size) ?_; intro v8 w8 hown hb; have Hown8 := Lib.hid hown; have H8 : Hid (Below w7.heap.size w7 w8) := Lib.hid (((H7.out.trans (below_drewN _ _)).alloc H7.out.size _).trans hb); clear hown hb; have d8 := (H8.out.cell (p := ⟨go, oo + j, none⟩) (by exact hgo)).trans Hd.out)
                    | (at_builtin; refine append_strs rfl _ _ rfl w7.heap.size _ (acc ++ [x]) rfl (Hown8.out.alloc _) _ [q] rfl (one_strs (by first | rfl | simp) q) (by simp; omega) (by have h := H8.out.size; simp; omega) ?_; intro v9 w9 hown hb; have Hown9 := Lib.hid hown; have H9 : Hid (Below w7.heap.size w7 w9) := Lib.hid ((H8.out.alloc H8.out.size _).trans hb); clear hown hb))
                  go_wp2
                  go_roundw
                  case rel => exact ⟨j + 1, acc ++ [x] ++ [q], true, by omega, by go_num, rfl, Hown9, HE, by simp; omega, H9.out⟩
                  case measure => simp [intOf]; omega
                | false =>
                  obtain rfl := less_total _ _ h2 h1
                  have HE : Hid ((acc ++ [x]) ++ insP x true (out.drop (j + 1)) = insP x x.isEmpty out) := Lib.hid (by rw [h1] at hE; simpa using hE.symm)
                  clear hE Hacc
                  go_wp2_with fail
                  go_quiet (fail)
                  go_wp2_with fail
                  go_quiet (fail)
                  go_wp2_with (at_builtin; refine append_strs rfl _ _ rfl w7.heap.size _ acc rfl ((own_drewN Hown.out _).alloc _) _ [x] rfl (one_strs (by first | rfl | simp) x) (by simp; omega) (size_box _ H7.out.size) ?_; intro v8 w8 hown hb; have Hown8 := Lib.hid hown; have H8 : Hid (Below w7.heap.size w7 w8) := Lib.hid (((H7.out.trans (below_drewN _ _)).alloc H7.out.size _).trans hb); clear hown hb)
                  go_wp2
                  go_roundw
                  case rel => exact ⟨j + 1, acc ++ [x], true, by omega, by go_num, rfl, Hown8, HE, by simp; omega, H8.out⟩
                  case measure => simp [intOf]; omega
          · have hjz : (out.length : Int) ≤ (j : Int) := by omega
            have hdj : decide (j < out.length) = false := by simp; omega
            have hE := Hacc.out
            rw [List.drop_of_length_le (by omega)] at hE
            have Hlen := Lib.hid (insP_len x x.isEmpty out)
            cases dB with
            | true =>
              rw [insP_done, List.append_nil] at hE
              have HE : Hid (acc = pivF [] (l.take (k + 1))) := Lib.hid (by rw [Hp2.out, ← Hpiv.out]; exact hE)
              have hal : acc.length ≤ k + 1 := by rw [hE]; have := Hlen.out; omega
              clear hE
              go_wp2
              go_roundw
              case rel => exact ⟨k + 1, acc, by omega, by go_num, Lib.hid (IsStrs.owned Hown.out), HE, hal, Hbel.out.trans (H7.out.mono Hbel.out.size)⟩
              case measure => simp [intOf]; omega
            | false =>
              have hE2 : acc ++ [x] = insP x x.isEmpty out := hE
              have HE : Hid (acc ++ [x] = pivF [] (l.take (k + 1))) := Lib.hid (by rw [Hp2.out, ← Hpiv.out]; exact hE2)
              have hal : (acc ++ [x]).length ≤ k + 1 := by rw [hE2]; have := Hlen.out; omega
              clear hE hE2
              go_wp2_with (at_builtin; refine append_strs rfl _ _ rfl w7.heap.size _ acc rfl (Hown.out.alloc _) _ [x] rfl (one_strs (by first | rfl | simp) x) (by simp; omega) (by have h := H7.out.size; simp; omega) ?_; intro v8 w8 hown hb; have Hown8 := Lib.hid hown; have H8 : Hid (Below w7.heap.size w7 w8) := Lib.hid ((H7.out.alloc H7.out.size _).trans hb); clear hown hb)
              go_roundw
              case rel => exact ⟨k + 1, acc ++ [x], by omega, by go_num, Lib.hid (IsStrs.owned Hown8.out), HE, hal, Hbel.out.trans (H8.out.mono Hbel.out.size)⟩
              case measure => simp [intOf]; omega
    · have hltz : (l.length : Int) ≤ (k : Int) := by omega
      have hdk : decide (k < l.length) = false := by simp; omega
      have HE : Hid (out = pivF [] l) := Lib.hid (by have h := Hpiv.out; rwa [List.take_of_length_le (by omega)] at h)
      go_wp2
      go_ret
      exact ⟨_, rfl, by rw [← HE.out]; exact Hout.out, Hbel.out⟩

/-- What describes a node. -/
structure Rq where
  pairs : List Rw
  kids : Bs
  pivs : Bs
  sums : List (Nat × Nat × Nat × Nat)
  buf : List R6
abbrev Q4 := Nat × Nat × Nat × Nat
def smQ (q : Q4) : Sm := (((q.1 : Int), (q.1 : Int) + (q.2.1 : Int)), ((q.2.2.1 : Int), (q.2.2.1 : Int) + (q.2.2.2 : Int)))
def sumAt (l : List Q4) (i : Nat) : Sm := match l[i]? with | some q => smQ q | none => ((0, 0), (0, 0))
def keysQ (l : Bs) : List Bs := l.map fun c => T4.keyS c.toNat
def pivsQ (x : Rq) : List Bs := (pivF [] (keysQ x.pivs)).take (min x.kids.length 10 - 1)
def madeQ (x : Rq) : Nd :=
  if x.kids = [] then ⟨T4.madeS x.pairs, [], [], [], []⟩
  else ⟨[], pivsQ x, (x.kids.take ((pivsQ x).length + 1)).map fun c => ((c.toNat : Nat) : Int), (List.range ((pivsQ x).length + 1)).map (sumAt x.sums), listS x.buf 12⟩

theorem has_allQ (k : Bs) : hasB ([], []) k = true := by unfold hasB; rw [less_nil]; rfl
theorem covers_allQ (s : Sp) : coversB ([], []) s = true := by
  unfold coversB
  have h1 : ltP (keyP s.1) (keyP []) = false := by
    cases h : ltP (keyP s.1) (keyP []) with
    | false => rfl
    | true => exact absurd h (by show ¬ (ltP (keyP s.1) (keyP []) = true); simp [ltP, keyP, less_nil])
  have h2 : ltP (hiP []) (hiP s.2) = false := by unfold hiP; rw [if_pos rfl]; split <;> rfl
  rw [h1, h2]; simp
theorem stays_all (m : Ms) : staysB ([], []) m = true := by
  unfold staysB
  rw [Bool.and_eq_true, List.all_eq_true, List.all_eq_true]
  exact ⟨fun s _ => covers_allQ s, fun s _ => covers_allQ s⟩
theorem buf_all {m : Ms} (h : validM m = true) : bufB ([], []) m = true := by unfold bufB; rw [h, stays_all]; rfl
theorem less_of_ne {p : Bs} (h : p ≠ []) : Op.bytesLess [] p = true := by cases p with
  | nil => exact absurd rfl h
  | cons a l => rfl
theorem pivB_srt (s : Sp) : ∀ (l : List Bs) (lo : Bs), (∀ q ∈ l, Op.bytesLess lo q = true) → (∀ q ∈ l, hasB s q = true) → SrtP l → pivB s lo l = true
  | [], _, _, _, _ => rfl
  | p :: r, lo, h1, h2, h3 => by
    unfold pivB
    rw [h1 p (by simp), h2 p (by simp), pivB_srt s r p h3.2.1 (fun q hq => h2 q (by simp [hq])) h3.2.2]
    rfl
theorem srtP_ne : ∀ {l : List Bs}, SrtP l → ∀ q ∈ l, q ≠ []
  | p :: r, h, q, hq => by
    rcases List.mem_cons.1 hq with rfl | hq
    · exact h.1
    · exact srtP_ne h.2.2 q hq
theorem srtP_take : ∀ {l : List Bs}, SrtP l → ∀ n, SrtP (l.take n)
  | [], _, n => by simp [SrtP]
  | p :: r, h, 0 => trivial
  | p :: r, h, n + 1 => ⟨h.1, fun q hq => h.2.1 q (List.mem_of_mem_take hq), srtP_take h.2.2 n⟩
theorem pivsQ_srt (x : Rq) : SrtP (pivsQ x) := by
  unfold pivsQ
  exact srtP_take (pivF_srt (keysQ x.pivs) [] trivial) _
theorem pivsQ_len (x : Rq) : (pivsQ x).length ≤ 9 ∧ (x.kids ≠ [] → (pivsQ x).length + 1 ≤ x.kids.length) := by
  unfold pivsQ
  rw [List.length_take]
  refine ⟨by omega, fun h => ?_⟩
  have := List.length_pos_iff.2 h
  omega
theorem pivF_memQ : ∀ (l out : List Bs) (y : Bs), y ∈ pivF out l → y ∈ out ∨ y ∈ l
  | [], out, y, h => .inl h
  | x :: r, out, y, h => by
    rcases pivF_memQ r _ y h with h | h
    · rcases insP_mem x _ out y h with h | h
      · exact .inr (by simp [h])
      · exact .inl h
    · exact .inr (by simp [h])
theorem pivsQ_short (x : Rq) : ∀ q ∈ pivsQ x, q.length ≤ 20 := fun q hq => by
  rcases pivF_memQ _ _ q (List.mem_of_mem_take hq) with h | h
  · cases h
  · obtain ⟨c, _, rfl⟩ := List.mem_map.1 h
    exact T4.keyS_len _
theorem sumAt_ok (l : List Q4) (hl : ∀ q ∈ l, q.1 < 256 ∧ q.2.1 < 256 ∧ q.2.2.1 < 256 ∧ q.2.2.2 < 256) (i : Nat) : sumB (sumAt l i) = true := by
  unfold sumAt
  cases h : l[i]? with
  | none => rfl
  | some q =>
    obtain ⟨h1, h2, h3, h4⟩ := hl q (List.mem_of_getElem? h)
    unfold smQ sumB rangeB
    simp only [Bool.and_eq_true, decide_eq_true_eq]
    omega
def SmallQ (x : Rq) : Prop := ∀ q ∈ x.sums, q.1 < 256 ∧ q.2.1 < 256 ∧ q.2.2.1 < 256 ∧ q.2.2.2 < 256
theorem keyT_ne (n : Nat) : T4.keyS n ≠ [] := by
  have h : ∀ m < 24, T4.keyS m ≠ [] := by decide +kernel
  have e : T4.keyS n = T4.keyS (n % 24) := by unfold T4.keyS; rw [Nat.mod_mod]
  rw [e]; exact h _ (Nat.mod_lt _ (by omega))
theorem leaf_made (x : Rw) : leafPB ([], []) (T4.prS x) = true := by
  have h1 := T4.keyS_len x.1
  have h2 := keyT_ne x.1
  have h3 : (T4.valL.getD (x.2.1 % 4) []).length ≤ 3 := T4.getD_len (by decide) _
  unfold leafPB pairB
  rw [has_allQ, Bool.and_true, decide_eq_true_eq]
  exact ⟨h2, by show (T4.keyS x.1).length ≤ _; omega, by show (T4.valL.getD (x.2.1 % 4) []).length ≤ _; omega, by show (0 : Int) ≤ ((x.2.2 % 4 : Nat) : Int); omega, by show ((x.2.2 % 4 : Nat) : Int) ≤ _; omega⟩
theorem listS_validQ (x : List R6) (n : Nat) : ∀ m ∈ listS x n, validM m = true := fun m hm => by
  obtain ⟨y, _, rfl⟩ := List.mem_map.1 hm
  exact made_valid _ _ _ _ _ _
theorem listS_lenQ (x : List R6) (n : Nat) : (listS x n).length ≤ n := by unfold listS; rw [List.length_map]; exact List.length_take_le _ _
theorem made_kids (x : Rq) : (madeQ x).kids = [] ↔ x.kids = [] := by
  unfold madeQ
  split
  · rename_i h; exact ⟨fun _ => h, fun _ => rfl⟩
  · rename_i h
    refine ⟨fun h2 => ?_, fun h2 => absurd h2 h⟩
    have := congrArg List.length h2
    rw [List.length_map, List.length_take] at this
    have := List.length_pos_iff.2 h
    simp only [List.length_nil] at *
    omega
theorem made_inner {x : Rq} (h : x.kids ≠ []) : madeQ x = ⟨[], pivsQ x, (x.kids.take ((pivsQ x).length + 1)).map fun c => ((c.toNat : Nat) : Int), (List.range ((pivsQ x).length + 1)).map (sumAt x.sums), listS x.buf 12⟩ := if_neg h
theorem made_leaf {x : Rq} (h : x.kids = []) : madeQ x = ⟨T4.madeS x.pairs, [], [], [], []⟩ := if_pos h
theorem madeQ_valid (x : Rq) (hx : SmallQ x) : validN (madeQ x) ([], []) = true := by
  unfold validN
  by_cases h : x.kids = []
  · rw [if_pos ((made_kids x).2 h), made_leaf h]
    unfold leafB
    simp only [List.isEmpty_nil, Bool.true_and, Bool.and_eq_true, List.all_eq_true]
    refine ⟨(validB_iff _).2 (T4.srt_foldR _), fun p hp => ?_⟩
    obtain ⟨y, _, rfl⟩ := T4.foldR_mem hp
    exact leaf_made y
  · rw [if_neg (fun h2 => h ((made_kids x).1 h2)), made_inner h]
    have hp := pivsQ_len x
    have hp2 := hp.2 h
    unfold innerB
    simp only [List.isEmpty_nil, Bool.true_and, Bool.and_eq_true, List.all_eq_true, decide_eq_true_eq, List.length_map, List.length_range, List.length_take]
    refine ⟨by omega, by omega, fun k hk => ?_, pivB_srt _ _ _ (fun q hq => less_of_ne (srtP_ne (pivsQ_srt x) q hq)) (fun q _ => has_allQ q) (pivsQ_srt x), fun s hs => ?_, fun m hm => buf_all (listS_validQ _ _ m hm)⟩
    · obtain ⟨c, _, rfl⟩ := List.mem_map.1 hk
      have := c.toNat_lt
      unfold kidB; rw [decide_eq_true_eq]; omega
    · obtain ⟨i, _, rfl⟩ := List.mem_map.1 hs
      exact sumAt_ok _ hx _
theorem madeQ_small (x : Rq) : (madeQ x).pairs.length ≤ 40 ∧ (madeQ x).kids.length ≤ 10 ∧ (madeQ x).pivots.length ≤ 9 ∧ (madeQ x).sums.length ≤ 10 ∧ (madeQ x).buf.length ≤ 12 := by
  by_cases h : x.kids = []
  · rw [made_leaf h]
    have h1 := T4.foldR_len (x.pairs.take 40)
    have h2 := List.length_take_le 40 x.pairs
    refine ⟨by show (T4.foldR (x.pairs.take 40)).length ≤ 40; omega, by simp, by simp, by simp, by simp⟩
  · rw [made_inner h]
    have hp := pivsQ_len x
    refine ⟨by simp, ?_, hp.1, ?_, listS_lenQ _ _⟩
    · show (List.map _ (List.take _ _)).length ≤ 10
      rw [List.length_map, List.length_take]; omega
    · show (List.map _ (List.range _)).length ≤ 10
      rw [List.length_map, List.length_range]; omega
theorem madeQ_piv (x : Rq) : (madeQ x).pivots.all textFB = true := by
  rw [List.all_eq_true]
  intro q hq
  by_cases h : x.kids = []
  · rw [made_leaf h] at hq; cases hq
  · rw [made_inner h] at hq
    have := pivsQ_short x q hq
    unfold textFB; rw [decide_eq_true_eq]; omega
theorem madeQ_few (x : Rq) : FewN (madeQ x) := by
  have h := madeQ_small x
  unfold FewN; omega
theorem madeQ_smallN (x : Rq) : SmallN (madeQ x) := by
  have h := madeQ_small x
  unfold SmallN; omega
theorem bytesQ_len (x : Rq) (hx : SmallQ x) : (bytesNd (madeQ x)).length ≤ 3000000 := by
  have hz := madeQ_small x
  by_cases h : (madeQ x).kids = []
  · rw [bytesNd_leaf (madeQ_valid x hx) h]
    unfold leafY
    have hp := (valid_leaf (madeQ_valid x hx) h).2.2.2.2
    have hl := flat_lenG pairY 70000 (madeQ x).pairs (fun p hp' => pairY_len (leafPB_iff (hp p hp')).1)
    have := Nat.mul_le_mul_right 70000 hz.1
    simp only [List.length_append, bytesN_len, List.length_cons, List.length_nil]
    omega
  · rw [bytesNd_inner (madeQ_valid x hx) (madeQ_piv x) h]
    unfold innerY
    have h1 := flat_lenG kidY 4 (madeQ x).kids (fun p _ => Nat.le_of_eq (kidY_len p))
    have h2 := flat_lenG textB 65537 (madeQ x).pivots (fun p hp => by
      have := textFB_iff (List.all_eq_true.1 (madeQ_piv x) p hp)
      rw [textB_len]; omega)
    have h3 := flat_lenG sumY 32 (madeQ x).sums (fun p _ => Nat.le_of_eq (sumY_len p))
    have h4 := flat_lenG bytesM 140000 (madeQ x).buf (fun p _ => bytesM_le p)
    have g1 := Nat.mul_le_mul_right 4 hz.2.1
    have g2 := Nat.mul_le_mul_right 65537 hz.2.2.1
    have g3 := Nat.mul_le_mul_right 32 hz.2.2.2.1
    have g4 := Nat.mul_le_mul_right 140000 hz.2.2.2.2
    simp only [List.length_append, bytesN_len, List.length_cons, List.length_nil]
    omega

end Go.Proofs.Ythpajecigkfajaa

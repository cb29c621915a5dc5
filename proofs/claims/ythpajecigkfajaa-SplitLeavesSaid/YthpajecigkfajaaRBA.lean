/-
  Walks: lists of texts, the parts of a span, pivots, covering in the reference.
-/
import Derived.Test.YthpajecigkfajaaRPA
import Derived.Test.YthpajecigkfajaaCV
import Derived.Test.YthpajecigkfajaaNDX
import Derived.Test.YthpajecigkfajaaNQJ
import Derived.Deep.QuietTactic
import Derived.BigQuiet
import Derived.Laws.AppendOwnNone
namespace Go.Proofs.Ythpajecigkfajaa
open Go.RowKit Go.Sort
set_option linter.unusedVariables false
theorem IsStrs.owned {w : World} {base : Nat} {v : Value} {n : Nat} {l : List Bs} (h : w.ownsRow base 9 1 v n (l.map fun s => .string (Str s))) : IsStrs w v l := by
  have hlen := h.1
  rw [List.length_map] at hlen
  obtain rfl : n = l.length := by omega
  rcases h.2 with ⟨rfl, h0⟩ | ⟨g, cap, cur, rfl, hb, hg, hn, hm, hsz, htk⟩
  · have : l = [] := List.length_eq_zero_iff.1 h0
    subst this
    exact ⟨none, 0, rfl, Nat.le_refl _, by unfold maxLen; omega, fun h => absurd rfl h⟩
  · refine ⟨_, cap, rfl, hn, hm, fun _ => ⟨g, 0, rfl, by rw [Array.getElem?_eq_some_iff] at hg; exact hg.1, fun i hi => ?_⟩⟩
    unfold World.cell?
    simp only
    rw [hg]
    show cur[0 + i]? = _
    rw [Nat.zero_add, ← Array.getElem?_toList]
    have : (cur.toList.take (l.length * 1))[i]? = (l.map fun s => Value.string (Str s))[i]? := by rw [htk]
    rw [List.getElem?_take, if_pos (by omega)] at this
    rw [this]; simp [hi]
/-- Keys, as cells. -/
def cellsK (ks : List Bs) : List Value := ks.map fun s => .string (Str s)
theorem append_strs {w : World} {ops : Array Oper} {rest : List Oper} {o : Oper} {a : Act} {Q : Exit → Act → World → Prop} (hgd : o.guard = none) (s x : Operand)
    (ho : o.op = .call { callee := .builtin .append, args := #[s, x], argTypes := #[35, 35] }) (base : Nat) (v : Value) (l : List Bs) (hs : a.eval s = v) (hown : w.ownsRow base 9 1 v l.length (cellsK l))
    (u : Value) (m : List Bs) (hx : a.eval x = u) (hp : IsStrs w u m) (hl : l.length + m.length ≤ 1000000000) (hbase : base ≤ w.heap.size)
    (h : ∀ v' w', w'.ownsRow base 9 1 v' (l ++ m).length (cellsK (l ++ m)) → Below base w w' → wpList Try.prog ops Q rest (a.put o.dst v') w') : wpList Try.prog ops Q (o :: rest) a w := by
  obtain ⟨i0, hi, hz0, hz1, hz2⟩ := info_parts infoStr
  obtain ⟨p, cap, rfl, hlc, hcm, hpp⟩ := hp
  refine append_gen hgd s x 35 9 i0 (.string ⟨#[]⟩) 1 16 Try.underlying35 hi hz0 hz1 hz2 rfl (by decide) (by decide) ho base v l.length _ hs hown p m.length cap (cellsK m) hx (by simp [cellsK]) ?_ ?_ hl hbase ?_
  · intro hm
    obtain ⟨b, off, rfl, hlt, hc⟩ := hpp (by rintro rfl; simp at hm)
    refine ⟨_, rfl, cells_at fun j u hj => ?_⟩
    obtain ⟨hj1, rfl⟩ := List.getElem?_eq_some_iff.1 hj
    have hj2 : j < m.length := by simpa [cellsK] using hj1
    rw [hc j hj2]; simp [cellsK]
  · intro u hu
    simp [cellsK] at hu
    obtain ⟨y, _, rfl⟩ := hu
    rfl
  · intro v' w' h2 h3
    refine h v' w' ?_ h3
    rw [List.length_append]; simpa [cellsK] using h2
theorem own_emptyS (W : World) (B : Nat) (hB : B ≤ W.heap.size) : (W.alloc (.cells #[] 57)).ownsRow B 57 2 (.slice (some ⟨W.heap.size, 0, none⟩) 0 0) ([] : List Sp).length (([] : List Sp).flatMap encS) :=
  ⟨rfl, .inr ⟨W.heap.size, 0, #[], rfl, hB, Blk.new _ _ _, Nat.le_refl _, by unfold maxLen; omega, rfl, rfl⟩⟩
theorem coversB_eq (a b : Sp) : coversB a b = (emptyB b || (!emptyB a && (Op.bytesLess a.1 b.1 || a.1 == b.1) && !ltP (hiP a.2) (hiP b.2))) := by
  rw [leq_eq]
  show (emptyB b || (!ltP (keyP b.1) (keyP a.1) && !ltP (hiP a.2) (hiP b.2))) = (emptyB b || (!emptyB a && !ltP (keyP b.1) (keyP a.1) && !ltP (hiP a.2) (hiP b.2)))
  cases hb : emptyB b with
  | true => rfl
  | false =>
    cases ha : emptyB a with
    | false => simp
    | true =>
      cases h1 : ltP (keyP b.1) (keyP a.1) with
      | true => rfl
      | false =>
        cases h2 : ltP (hiP a.2) (hiP b.2) with
        | true => rfl
        | false =>
          exfalso
          have e1 := (emptyB_no b).1 hb
          have e2 := (emptyB_iff a).1 ha
          have e3 := (ltP_false _ _).1 h1
          have e4 := (ltP_false _ _).1 h2
          grind
theorem one_strs {w : World} {n : Nat} (hn : n = w.heap.size) (s : Bs) : IsStrs (w.alloc (.cells #[.string (Str s)] 9)) (.slice (some ⟨n, 0, none⟩) 1 1) [s] := by
  subst hn
  refine ⟨_, 1, rfl, Nat.le_refl _, by unfold maxLen; omega, fun _ => ⟨w.heap.size, 0, rfl, by simp, fun i hi => ?_⟩⟩
  obtain rfl : i = 0 := by simpa using hi
  have hB : Blk (w.alloc (.cells #[.string (Str s)] 9)) w.heap.size 9 #[.string (Str s)] := Blk.new _ _ _
  exact hB.c0 0 _ rfl
theorem own_drewN {w : World} {base size m : Nat} {e : TypeId} {v : Value} {xs : List Value} (h : w.ownsRow base e size v m xs) (n : Nat) : (w.drewN n).ownsRow base e size v m xs := h
theorem size_box {w : World} {B n : Nat} (o : Obj) (h : B ≤ w.heap.size) : B ≤ ((w.drewN n).alloc o).heap.size := by
  show B ≤ (w.heap.push o).size
  rw [Array.size_push]; exact Nat.le_succ_of_le h
theorem own_emptyK (W : World) (B : Nat) (hB : B ≤ W.heap.size) : (W.alloc (.cells #[] 9)).ownsRow B 9 1 (.slice (some ⟨W.heap.size, 0, none⟩) 0 0) ([] : List Bs).length (cellsK []) :=
  ⟨rfl, .inr ⟨W.heap.size, 0, #[], rfl, hB, Blk.new _ _ _, Nat.le_refl _, by unfold maxLen; omega, rfl, rfl⟩⟩
set_option maxRecDepth 100000 in
set_option maxHeartbeats 4000000 in
theorem pivots_w (v : Value) (l : List Bs) (w : World) (h : IsStrs w v l) (hl : l.length ≤ 100) :
    Calls Try.prog 22 #[v] w fun e w' => ∃ v', e = .returned v' ∧ IsStrs w' v' (pivF [] l) ∧ Below w.heap.size w w' := by
  have mixed := mixedA
  obtain ⟨g, off, cap, p, rfl, hlc, hcm, hpp, hcc⟩ := h.form
  unfold maxLen at hcm
  have HP := Lib.hid hpp
  have HC := Lib.hid hcc
  clear h hpp hcc
  go_enter Try.func22, Try.ntmps22
  go_wp2
  go_loopw [3, 4] (fun vo i wr => ∃ (k : Nat) (out : List Bs), k ≤ l.length ∧ i = .int .i64 k ∧ Hid (IsStrs wr vo out) ∧ Hid (out = pivF [] (l.take k)) ∧ out.length ≤ k ∧ Below w.heap.size w wr) (fun _ i _ => l.length - (intOf i).toNat)
  case atStart => exact ⟨0, [], Nat.zero_le _, rfl, Lib.hid (IsStrs.owned (own_emptyK w w.heap.size (Nat.le_refl _))), Lib.hid rfl, Nat.le_refl _, below_box _⟩
  case round =>
    obtain ⟨k, out, hk, rfl, Hout, Hpiv, hol, hbel⟩ := hrel
    have Hbel := Lib.hid hbel
    clear hbel
    by_cases hlt : k < l.length
    · have hltz : (k : Int) < (l.length : Int) := by omega
      have hdk : decide (k < l.length) = true := by simp; omega
      obtain ⟨rfl, c0⟩ := HC.out k hlt
      have hgl := (HP.out (by rintro rfl; simp at hlt)).2
      have c0 := (Hbel.out.cell (p := ⟨g, off + k, none⟩) (by exact hgl)).trans c0
      have hgw : g < wr.heap.size := Nat.lt_of_lt_of_le hgl Hbel.out.size
      have Hp2 := Lib.hid (pivF_take l [] k hlt)
      obtain ⟨go, oo, capo, po, rfl, hoc, hom, hop, hocc⟩ := Hout.out.form
      unfold maxLen at hom
      have HOP := Lib.hid hop
      have HOC := Lib.hid hocc
      clear hop hocc
      generalize l[k] = x at *
      obtain ⟨w7, hw7⟩ : ∃ w7 : World, w7 = wr := ⟨_, rfl⟩
      subst hw7
      have H0 := Lib.hid c0
      go_wp2
      go_cut [5, 6] (fun s5 s6 wx => s6 = .bool x.isEmpty ∧ Hid (wx.ownsRow w7.heap.size 9 1 s5 ([] : List Bs).length (cellsK [])) ∧ Below w7.heap.size w7 wx)
      case first =>
        cases hx : x with
        | nil =>
          subst hx
          go_region
          all_goals (go_wp2_with fail; go_meet)
          all_goals exact ⟨rfl, Lib.hid (own_emptyK w7 _ (Nat.le_refl _)).drew, (below_box _).drew⟩
        | cons a r =>
          rw [hx] at c0
          go_region
          all_goals (go_wp2_with fail; go_meet)
          all_goals exact ⟨by rw [hx]; rfl, Lib.hid (own_emptyK w7 _ (Nat.le_refl _)).drew, (below_box _).drew⟩
      case rest =>
        obtain ⟨rfl, Hown1, hb1⟩ := hcut
        have HB1 := Lib.hid hb1
        clear hb1 c0
        go_wp2
        go_loopw [5, 6, 7] (fun vn d i wz => ∃ (j : Nat) (acc : List Bs) (dB : Bool), j ≤ out.length ∧ i = .int .i64 j ∧ d = .bool dB ∧ Hid (wz.ownsRow w7.heap.size 9 1 vn acc.length (cellsK acc)) ∧ Hid (acc ++ insP x dB (out.drop j) = insP x x.isEmpty out) ∧ acc.length ≤ 2 * j ∧ Below w7.heap.size w7 wz) (fun _ _ i _ => out.length - (intOf i).toNat)
        case atStart => exact ⟨0, [], x.isEmpty, Nat.zero_le _, rfl, rfl, Hown1, Lib.hid rfl, Nat.le_refl _, HB1.out⟩
        case round =>
          clear Hown1 HB1
          obtain ⟨j, acc, dB, hj, rfl, rfl, Hown, Hacc, hacl, hb7⟩ := hrel
          have H7 := Lib.hid hb7
          have c0 := (hb7.cell (p := ⟨g, off + k, none⟩) (by exact hgw)).trans H0.out
          clear hb7
          by_cases hj2 : j < out.length
          · have hjz : (j : Int) < (out.length : Int) := by omega
            have hdj : decide (j < out.length) = true := by simp; omega
            obtain ⟨rfl, d0⟩ := HOC.out j hj2
            have hgo := (HOP.out (by rintro rfl; simp at hj2)).2
            have Hd := Lib.hid d0
            have d0 := (H7.out.cell (p := ⟨go, oo + j, none⟩) (by exact hgo)).trans d0
            have hE := insP_app x dB acc out j hj2
            rw [Hacc.out] at hE
            generalize out[j] = q at *
            cases dB with
            | true =>
              have HE : Hid ((acc ++ [q]) ++ insP x true (out.drop (j + 1)) = insP x x.isEmpty out) := Lib.hid hE.symm
              clear hE Hacc
              go_wp2_with fail
              go_quiet (fail)
              go_wp2_with (at_builtin; refine append_strs rfl _ _ rfl w7.heap.size _ acc rfl ((own_drewN Hown.out _).alloc _) _ [q] rfl (one_strs (by first | rfl | simp) q) (by simp; omega) (size_box _ H7.out.size) ?_; intro v8 w8 hown hb; have Hown8 := Lib.hid hown; have H8 : Hid (Below w7.heap.size w7 w8) := Lib.hid (((H7.out.trans (below_drewN _ _)).alloc H7.out.size _).trans hb); clear hown hb)
              go_wp2
              go_roundw
              case rel => exact ⟨j + 1, acc ++ [q], true, by omega, by go_num, rfl, Hown8, HE, by simp; omega, H8.out⟩
              case measure => simp [intOf]; omega
            | false =>
              cases h1 : Op.bytesLess q x with
              | true =>
                have HE : Hid ((acc ++ [q]) ++ insP x false (out.drop (j + 1)) = insP x x.isEmpty out) := Lib.hid (by rw [h1] at hE; exact hE.symm)
                have h2 : Op.bytesLess x q = false := by
                  cases h : Op.bytesLess x q with
                  | false => rfl
                  | true => have := less_trans _ _ _ h h1; rw [less_irrefl] at this; cases this
                have h3 : (x == q) = false := by
                  rw [beq_eq_false_iff_ne]; rintro rfl; rw [less_irrefl] at h1; cases h1
                clear hE Hacc
                go_wp2_with fail
                go_quiet (fail)
                go_wp2_with (at_builtin; refine append_strs rfl _ _ rfl w7.heap.size _ acc rfl ((own_drewN Hown.out _).alloc _) _ [q] rfl (one_strs (by first | rfl | simp) q) (by simp; omega) (size_box _ H7.out.size) ?_; intro v8 w8 hown hb; have Hown8 := Lib.hid hown; have H8 : Hid (Below w7.heap.size w7 w8) := Lib.hid (((H7.out.trans (below_drewN _ _)).alloc H7.out.size _).trans hb); clear hown hb)
                go_wp2
                go_roundw
                case rel => exact ⟨j + 1, acc ++ [q], false, by omega, by go_num, rfl, Hown8, HE, by simp; omega, H8.out⟩
                case measure => simp [intOf]; omega
              | false =>
                cases h2 : Op.bytesLess x q with
                | true =>
                  have HE : Hid ((acc ++ [x] ++ [q]) ++ insP x true (out.drop (j + 1)) = insP x x.isEmpty out) := Lib.hid (by rw [h1, h2] at hE; exact hE.symm)
                  clear hE Hacc
                  go_wp2_with fail
                  go_quiet (fail)
                  go_wp2_with fail
                  go_quiet (fail)
                  go_wp2_with (first
                    | (at_builtin; refine append_strs rfl _ _ rfl w7.heap.size _ acc rfl ((own_drewN Hown.out _).alloc _) _ [x] rfl (one_strs (by first | rfl | simp) x) (by simp; omega) (size_box _ H7.out.size) ?_; intro v8 w8 hown hb; have Hown8 := Lib.hid hown; have H8 : Hid (Below w7.heap.size w7 w8) := Lib.hid (((H7.out.trans (below_drewN _ _)).alloc H7.out.size _).trans hb); clear hown hb; have d8 := (H8.out.cell (p := ⟨go, oo + j, none⟩) (by exact hgo)).trans Hd.out)
                    | (at_builtin; refine append_strs rfl _ _ rfl w7.heap.size _ (acc ++ [x]) rfl (Hown8.out.alloc _) _ [q] rfl (one_strs (by first | rfl | simp) q) (by simp; omega) (by have h := H8.out.size; simp; omega) ?_; intro v9 w9 hown hb; have Hown9 := Lib.hid hown; have H9 : Hid (Below w7.heap.size w7 w9) := Lib.hid ((H8.out.alloc H8.out.size _).trans hb); clear hown hb))
                  go_wp2
                  go_roundw
                  case rel => exact ⟨j + 1, acc ++ [x] ++ [q], true, by omega, by go_num, rfl, Hown9, HE, by simp; omega, H9.out⟩
                  case measure => simp [intOf]; omega
                | false =>
                  obtain rfl := less_total _ _ h2 h1
                  have HE : Hid ((acc ++ [x]) ++ insP x true (out.drop (j + 1)) = insP x x.isEmpty out) := Lib.hid (by rw [h1] at hE; simpa using hE.symm)
                  clear hE Hacc
                  go_wp2_with fail
                  go_quiet (fail)
                  go_wp2_with fail
                  go_quiet (fail)
                  go_wp2_with (at_builtin; refine append_strs rfl _ _ rfl w7.heap.size _ acc rfl ((own_drewN Hown.out _).alloc _) _ [x] rfl (one_strs (by first | rfl | simp) x) (by simp; omega) (size_box _ H7.out.size) ?_; intro v8 w8 hown hb; have Hown8 := Lib.hid hown; have H8 : Hid (Below w7.heap.size w7 w8) := Lib.hid (((H7.out.trans (below_drewN _ _)).alloc H7.out.size _).trans hb); clear hown hb)
                  go_wp2
                  go_roundw
                  case rel => exact ⟨j + 1, acc ++ [x], true, by omega, by go_num, rfl, Hown8, HE, by simp; omega, H8.out⟩
                  case measure => simp [intOf]; omega
          · have hjz : (out.length : Int) ≤ (j : Int) := by omega
            have hdj : decide (j < out.length) = false := by simp; omega
            have hE := Hacc.out
            rw [List.drop_of_length_le (by omega)] at hE
            have Hlen := Lib.hid (insP_len x x.isEmpty out)
            cases dB with
            | true =>
              rw [insP_done, List.append_nil] at hE
              have HE : Hid (acc = pivF [] (l.take (k + 1))) := Lib.hid (by rw [Hp2.out, ← Hpiv.out]; exact hE)
              have hal : acc.length ≤ k + 1 := by rw [hE]; have := Hlen.out; omega
              clear hE
              go_wp2
              go_roundw
              case rel => exact ⟨k + 1, acc, by omega, by go_num, Lib.hid (IsStrs.owned Hown.out), HE, hal, Hbel.out.trans (H7.out.mono Hbel.out.size)⟩
              case measure => simp [intOf]; omega
            | false =>
              have hE2 : acc ++ [x] = insP x x.isEmpty out := hE
              have HE : Hid (acc ++ [x] = pivF [] (l.take (k + 1))) := Lib.hid (by rw [Hp2.out, ← Hpiv.out]; exact hE2)
              have hal : (acc ++ [x]).length ≤ k + 1 := by rw [hE2]; have := Hlen.out; omega
              clear hE hE2
              go_wp2_with (at_builtin; refine append_strs rfl _ _ rfl w7.heap.size _ acc rfl (Hown.out.alloc _) _ [x] rfl (one_strs (by first | rfl | simp) x) (by simp; omega) (by have h := H7.out.size; simp; omega) ?_; intro v8 w8 hown hb; have Hown8 := Lib.hid hown; have H8 : Hid (Below w7.heap.size w7 w8) := Lib.hid ((H7.out.alloc H7.out.size _).trans hb); clear hown hb)
              go_roundw
              case rel => exact ⟨k + 1, acc ++ [x], by omega, by go_num, Lib.hid (IsStrs.owned Hown8.out), HE, hal, Hbel.out.trans (H8.out.mono Hbel.out.size)⟩
              case measure => simp [intOf]; omega
    · have hltz : (l.length : Int) ≤ (k : Int) := by omega
      have hdk : decide (k < l.length) = false := by simp; omega
      have HE : Hid (out = pivF [] l) := Lib.hid (by have h := Hpiv.out; rwa [List.take_of_length_le (by omega)] at h)
      go_wp2
      go_ret
      exact ⟨_, rfl, by rw [← HE.out]; exact Hout.out, Hbel.out⟩

end Go.Proofs.Ythpajecigkfajaa

/-
  Walks: reference 08's pivots and spans.
-/
import Derived.Test.YtjncehkldhkobaaGreatSB
namespace Go.Proofs.YtjncehkldhkobaaGreat
open Go.RowKit Go.Sort
set_option linter.unusedVariables false

def pivT (n : Nat) : Bs := if n % 2 = 0 then pathS (n / 2) else keyS (n / 2)
def pivR (l : Bs) : List Bs := pivF [] ((l.take 4).map fun c => pivT c.toNat)
theorem pivR_srt (l : Bs) : SrtP (pivR l) := pivF_srt _ _ trivial
theorem pivR_len (l : Bs) : (pivR l).length ≤ 4 := by
  have h := pivF_len ((l.take 4).map fun c => pivT c.toNat) []
  unfold pivR
  have h2 : ((l.take 4).map fun c => pivT c.toNat).length ≤ 4 := by rw [List.length_map, List.length_take]; omega
  have h3 : ([] : List Bs).length = 0 := rfl
  omega
theorem pivT_len (n : Nat) : (pivT n).length ≤ 8 := by
  unfold pivT; split
  · have := path_len (n / 2); omega
  · have := key_len (n / 2); omega
theorem pivF_mem : ∀ (l out : List Bs) (y : Bs), y ∈ pivF out l → y ∈ out ∨ y ∈ l
  | [], out, y, h => .inl h
  | x :: r, out, y, h => by
    rcases pivF_mem r _ y h with h | h
    · rcases insP_mem x _ out y h with h | h
      · exact .inr (by simp [h])
      · exact .inl h
    · exact .inr (by simp [h])
theorem pivR_short (l : Bs) : ∀ y ∈ pivR l, y.length ≤ 8 := fun y hy => by
  rcases pivF_mem _ _ y hy with h | h
  · cases h
  · obtain ⟨c, _, rfl⟩ := List.mem_map.1 h
    exact pivT_len _
theorem map_take' (l : Bs) (j : Nat) (h : j < l.length) : (l.take (j + 1)).map (fun c => pivT c.toNat) = (l.take j).map (fun c => pivT c.toNat) ++ [pivT (l[j]).toNat] := by
  rw [List.take_succ_eq_append_getElem h, List.map_append]; rfl
/-- Ends of kids' spans are short. -/
theorem parts_short {M : Nat} (hM : 1 ≤ M) (s : Sp) (hs : s.1.length ≤ M ∧ s.2.length ≤ M) : ∀ (ps : List Bs) (lo : Bs), lo.length ≤ M → (∀ y ∈ ps, y.length ≤ M) → ∀ x ∈ partsF s lo ps, x.1.length ≤ M ∧ x.2.length ≤ M
  | [], lo, hl, _, x, hx => by
    rw [partsF, List.mem_singleton] at hx
    subst hx
    exact meet_short hM hs ⟨hl, Nat.zero_le _⟩
  | p :: r, lo, hl, hp, x, hx => by
    rw [partsF] at hx
    rcases List.mem_cons.1 hx with rfl | hx
    · exact meet_short hM hs ⟨hl, hp p (by simp)⟩
    · exact parts_short hM s hs r p (hp p (by simp)) (fun y hy => hp y (by simp [hy])) x hx
theorem kid_short (l : Bs) (i : Nat) : (kidSp (pivR l) i).1.length ≤ 8 ∧ (kidSp (pivR l) i).2.length ≤ 8 := by
  by_cases h : i < (pivR l).length + 1
  · rw [kidSp_at h]
    exact parts_short (by decide) ([], []) ⟨Nat.zero_le _, Nat.zero_le _⟩ (pivR l) [] (Nat.zero_le _) (pivR_short l) _ (List.getElem_mem _)
  · unfold kidSp
    rw [List.getD_eq_getElem?_getD, List.getElem?_eq_none (by rw [kids_len]; omega)]
    exact ⟨by decide, by decide⟩

set_option maxRecDepth 100000 in
set_option maxHeartbeats 4000000 in
theorem pivots8_w (v : Value) (l : Bs) (w : World) (h : IsBytes w v l) : Calls Tryz.prog 13 #[v] w fun e w' => ∃ v', e = .returned v' ∧ IsStrs w' v' (pivR l) ∧ Below w.heap.size w w' := by
  have mixed := mixedA
  obtain ⟨p, cap, rfl, hlc, hcm, hcc⟩ := h
  unfold maxLen at hcm
  have HC : Hid (∀ k (hk : k < l.length), ∃ b off, p = some ⟨b, off, none⟩ ∧ b < w.heap.size ∧ w.cell? ⟨b, off + k, none⟩ = some (.int .u8 ((l[k]).toNat))) := Lib.hid (fun k hk => by
    obtain ⟨b, off, rfl, hb, hc⟩ := hcc (by rintro rfl; simp at hk)
    exact ⟨b, off, rfl, hb, hc k hk⟩)
  have HPV := Lib.hid (fun v ks wx (h : IsStrs wx v ks) (hl : ks.length ≤ 100) => pivots_w v ks wx h hl)
  have HE : Hid (pivF [] ((l.take 4).map fun c => pivT c.toNat) = pivR l) := Lib.hid rfl
  clear hcc
  go_enter Tryz.func13, Tryz.ntmps13
  go_wp2
  go_loopw [3, 4] (fun o i wr => ∃ j : Nat, j ≤ l.length ∧ j ≤ 4 ∧ i = .int .i64 j ∧ wr.ownsRow w.heap.size 9 1 o ((l.take j).map fun c => pivT c.toNat).length (cellsK ((l.take j).map fun c => pivT c.toNat)) ∧ Below w.heap.size w wr) (fun _ i _ => l.length - (intOf i).toNat)
  case atStart => exact ⟨0, Nat.zero_le _, Nat.zero_le _, rfl, own_emptyK w w.heap.size (Nat.le_refl _), below_box _⟩
  case round =>
    obtain ⟨j, hj, hj4, rfl, hown, hbel⟩ := hrel
    have hsz := hbel.size
    have Hown := Lib.hid hown
    have Hbel := Lib.hid hbel
    clear hown
    by_cases hlt : j < l.length ∧ j < 4
    · obtain ⟨hlt, hlt4⟩ := hlt
      obtain ⟨b, off, rfl, hgl, c0⟩ := HC.out j hlt
      have c0 := (hbel.cell (p := ⟨b, off + j, none⟩) hgl).trans c0
      have hltz : (j : Int) < (l.length : Int) := by omega
      have hlt4z : (j : Int) < 4 := by omega
      have Htk := Lib.hid (map_take' l j hlt)
      have hn : (l[j]).toNat < 256 := (l[j]).toNat_lt
      have hll : ((l.take j).map fun c => pivT c.toNat).length ≤ 4 := by rw [List.length_map, List.length_take]; omega
      generalize (l[j]).toNat = n at *
      have HPT : Hid (pivT n = if n % 2 = 0 then pathS (n / 2) else keyS (n / 2)) := Lib.hid rfl
      have hpa := Lib.hid (fun wx => path_w (n / 2) wx (by omega))
      have hke := Lib.hid (fun wx => key_w (n / 2) wx (by omega))
      generalize (l.take j).map (fun c => pivT c.toNat) = left at *
      have hz2 : (n : Int) % 2 = ((n % 2 : Nat) : Int) := by omega
      have hzd : (n : Int) / 2 = ((n / 2 : Nat) : Int) := by omega
      have hq : n / 2 < 128 := by omega
      have hnz : (n : Int) < 256 := by omega
      generalize pathS (n / 2) = pa at *
      generalize keyS (n / 2) = ke at *
      generalize n / 2 = q at *
      clear hbel hn
      rcases Nat.mod_two_eq_zero_or_one n with h2 | h2
      · have h2z : (n : Int) % 2 = 0 := by omega
        have HS : Hid (pivT n = pa) := Lib.hid (by rw [HPT.out, if_pos h2])
        clear hz2 h2
        go_wp2_with (first
          | (go_at_call 44; (refine (hpa.out _).mono ?_); rintro e w2 ⟨rfl, hb2⟩; have HB2 : Hid (Below w.heap.size w w2) := Lib.hid (Hbel.out.trans (hb2.mono hsz)); have HO2 := Lib.hid (owns_below Hown.out hb2); clear hb2)
          | (at_builtin; refine append_strs rfl _ _ rfl w.heap.size u3 left rfl (owns_below HO2.out (below_box _)) _ [pa] rfl (one_strs (by first | rfl | simp) pa) (by simp only [List.length_cons, List.length_nil]; omega) (Nat.le_trans HB2.out.size (by simp)) ?_; intro v3 w3 hown3 hb3; have HB3 : Hid (Below w.heap.size w w3) := Lib.hid ((HB2.out.alloc HB2.out.size _).trans hb3); have HO3 := Lib.hid hown3; clear hown3 hb3))
        rw [← HS.out, ← Htk.out] at HO3
        go_wp2
        go_roundw
        case rel => exact ⟨j + 1, by omega, by omega, by go_num, HO3.out, HB3.out⟩
        case measure => simp [intOf]; omega
      · have h2z : (n : Int) % 2 = 1 := by omega
        have h2b : ((n : Int) % 2 == 0) = false := by rw [h2z]; rfl
        have HS : Hid (pivT n = ke) := Lib.hid (by rw [HPT.out, if_neg (by omega)])
        clear hz2 h2 h2z
        go_wp2_with (first
          | (go_at_call 45; (refine (hke.out _).mono ?_); rintro e w2 ⟨rfl, hb2⟩; have HB2 : Hid (Below w.heap.size w w2) := Lib.hid (Hbel.out.trans (hb2.mono hsz)); have HO2 := Lib.hid (owns_below Hown.out hb2); clear hb2)
          | (at_builtin; refine append_strs rfl _ _ rfl w.heap.size u3 left rfl (owns_below HO2.out (below_box _)) _ [ke] rfl (one_strs (by first | rfl | simp) ke) (by simp only [List.length_cons, List.length_nil]; omega) (Nat.le_trans HB2.out.size (by simp)) ?_; intro v3 w3 hown3 hb3; have HB3 : Hid (Below w.heap.size w w3) := Lib.hid ((HB2.out.alloc HB2.out.size _).trans hb3); have HO3 := Lib.hid hown3; clear hown3 hb3))
        rw [← HS.out, ← Htk.out] at HO3
        go_wp2
        go_roundw
        case rel => exact ⟨j + 1, by omega, by omega, by go_num, HO3.out, HB3.out⟩
        case measure => simp [intOf]; omega
    · have hmd : Hid ((l.take j).map (fun c => pivT c.toNat) = (l.take 4).map (fun c => pivT c.toNat)) := Lib.hid (by
        by_cases h4 : j = 4
        · rw [h4]
        · have : j = l.length := by omega
          rw [List.take_of_length_le (by omega), List.take_of_length_le (by omega)])
      rw [hmd.out] at Hown
      have hll : ((l.take 4).map fun c => pivT c.toNat).length ≤ 100 := by rw [List.length_map, List.length_take]; omega
      have HFIN := Lib.hid (HPV.out _ _ wr (IsStrs.owned Hown.out) hll)
      rw [HE.out] at HFIN
      have HBF := Lib.hid hbel
      clear hbel
      by_cases h1 : j < l.length
      · have h40 : (4 : Int) ≤ (j : Int) := by omega
        have hltz : (j : Int) < (l.length : Int) := by omega
        clear hlt
        go_wp2_with fail
        refine HFIN.out.mono ?_
        rintro e w5 ⟨v5, rfl, hs5, hb5⟩
        have HS5 := Lib.hid hs5
        have HB5 := Lib.hid (HBF.out.trans (hb5.mono hsz))
        clear hs5 hb5
        go_wp2
        go_ret
        exact ⟨_, rfl, HS5.out, HB5.out⟩
      · have hltz : (l.length : Int) ≤ (j : Int) := by omega
        clear hlt
        go_wp2_with fail
        refine HFIN.out.mono ?_
        rintro e w5 ⟨v5, rfl, hs5, hb5⟩
        have HS5 := Lib.hid hs5
        have HB5 := Lib.hid (HBF.out.trans (hb5.mono hsz))
        clear hs5 hb5
        go_wp2
        go_ret
        exact ⟨_, rfl, HS5.out, HB5.out⟩
theorem spans8_w (v : Value) (ps : List Bs) (w : World) (h : IsStrs w v ps) (hl : ps.length ≤ 1000) : Calls Tryz.prog 14 #[v] w fun e w' => ∃ v', e = .returned v' ∧ w'.ownsRow w.heap.size 38 2 v' (kidsS ps).length ((kidsS ps).flatMap encS) ∧ Below w.heap.size w w' := by
  have hp := rparts_w [] [] v ps w h hl
  change Calls _ _ #[.agg #[.string ⟨#[]⟩, .string ⟨#[]⟩], _] _ fun e w' => ∃ v', e = .returned v' ∧ w'.ownsRow _ _ 2 v' (kidsS ps).length ((kidsS ps).flatMap encS) ∧ _ at hp
  have HP := Lib.hid hp
  obtain ⟨a, cap, rfl, -⟩ := h
  clear hp
  generalize kidsS ps = K at *
  go_enter Tryz.func14, Tryz.ntmps14
  go_wp2_with fail
  refine HP.out.mono ?_
  rintro e w2 ⟨v2, rfl, ho2, hb2⟩
  have HO := Lib.hid ho2
  have HB := Lib.hid hb2
  clear ho2 hb2
  go_wp2
  go_ret
  exact ⟨_, rfl, HO.out, HB.out⟩

end Go.Proofs.YtjncehkldhkobaaGreat

/-
  Walks: joined lists of texts.
-/
import Derived.Test.YthpajecigkfajaaAF
import Derived.Test.YthpajecigkfajaaSh4
namespace Go.Proofs.Ythpajecigkfajaa
open Go.RowKit Go.Sort
set_option linter.unusedVariables false
set_option maxRecDepth 100000

/-- A list of texts handed back in memory of the call's own. -/
def OwnOutT (B : Nat) (w : World) (l : List Bs) (e : Ending) (w' : World) : Prop :=
  ∃ v', e = .returned v' ∧ w'.ownsRow B 9 1 v' l.length (l.flatMap encT) ∧ IsStrs w' v' l ∧ Below B w w'
theorem growT_w (n : Nat) (w : World) (hn : n ≤ 1000000000) : Calls Try.prog 42 #[.slice none 0 0, .int .i64 n] w (OwnOutT w.heap.size w []) := by
  obtain ⟨i0, hi, hz0, hz1, hz2⟩ := info_parts infoStr
  by_cases h0 : n = 0
  · subst h0
    refine (Any8.slices_Grow_room Try.growT none 0 0 0 w (Nat.le_refl _) (by omega) (by omega) (by omega)).mono fun e w' ⟨h1, h2⟩ => ?_
    subst h2
    exact ⟨_, h1, World.ownsRow_nil _ _ _ _, nil_strs _, Below.refl _ _⟩
  · have hcap := grownCap_ge w (0 + n) 0 9
    have hmax := grownCap_le_maxLen w (0 + n) 0 9 (by unfold maxLen; omega)
    refine (Any8.slices_Grow_grow Try.growT i0 _ hi hz0 (by omega) none 0 0 n [] w (Nat.le_refl _) (by omega) (by rw [hz2]; omega) (by omega) (by simp) (fun _ => rfl) (fun a h => by cases h)).mono fun e w' ⟨h1, h2⟩ => ?_
    change w' = w.drew.alloc (.cells _ 9) at h2
    change e = .returned (.slice _ 0 (grownCap w (0 + n) 0 9)) at h1
    have hown : w'.ownsRow w.heap.size 9 1 (.slice (some ⟨w.heap.size, 0, none⟩) 0 (grownCap w (0 + n) 0 9)) ([] : List Bs).length (([] : List Bs).flatMap encT) := by
      subst h2
      refine World.ownsRow_made (base := w.heap.size) w.drew _ _ (Nat.le_refl _) hmax ?_
      simp only [Array.size_append, zero_size]
      have h3 : (Value.string ⟨#[]⟩).cells.size = 1 := rfl
      have h4 : (#[] : Array Value).size = 0 := rfl
      rw [h3]
      show 0 + (0 + n - 0) * 1 + (grownCap w (0 + n) 0 9 - (0 + n)) * 1 = grownCap w (0 + n) 0 9 * 1
      omega
    refine ⟨_, h1, hown, IsStrs.ownedT hown, ?_⟩
    subst h2
    exact (show Below w.heap.size w w.drew from ⟨rfl, rfl, rfl, Nat.le_refl _, fun _ _ => rfl⟩).trans (show Below w.heap.size w.drew (w.drew.alloc _) from below_box (w := w.drew) _)

/-- The first k lists, joined. -/
def joinT (ls : List (List Bs)) (k : Nat) : List Bs := (ls.take k).flatten
theorem joinT_zero (ls : List (List Bs)) : joinT ls 0 = [] := rfl
theorem joinT_all (ls : List (List Bs)) : joinT ls ls.length = ls.flatten := by unfold joinT; rw [List.take_length]
theorem joinT_take (ls : List (List Bs)) (k : Nat) (h : k < ls.length) : joinT ls (k + 1) = joinT ls k ++ ls[k] := by
  unfold joinT
  rw [List.take_add_one, List.getElem?_eq_getElem h, List.flatten_append]; simp only [Option.toList, List.flatten_cons, List.flatten_nil, List.append_nil]
theorem joinT_le (ls : List (List Bs)) (k : Nat) : (joinT ls k).length ≤ ls.flatten.length := by
  unfold joinT
  conv => rhs; rw [← List.take_append_drop k ls]
  rw [List.flatten_append, List.length_append]; omega

set_option maxRecDepth 100000 in
set_option maxHeartbeats 4000000 in
theorem concatT_w (b : Nat) (vs : List Value) (ls : List (List Bs)) (w : World) (hb : Blk w b 35 vs.toArray) (hlen : vs.length = ls.length) (hlc : ls.length ≤ 1000)
    (h : ∀ i (hi : i < ls.length) (hv : i < vs.length), IsStrs w vs[i] ls[i]) (htot : ls.flatten.length ≤ 1000000000) :
    Calls Try.prog 31 #[.slice (some ⟨b, 0, none⟩) ls.length ls.length] w (OwnOutT w.heap.size w ls.flatten) := by
  have hblt := hb.lt
  have HB := Lib.hid hb
  have H := Lib.hid h
  have Hlen := Lib.hid hlen
  have htk := joinT_le ls
  have hall := joinT_all ls
  generalize ls.flatten = all at *
  have Hall := Lib.hid hall
  have Htk := Lib.hid htk
  clear h hb hlen htk hall
  go_enter Try.func31, Try.ntmps31
  go_wp2
  go_loop [3, 11] (fun s i => ∃ k : Nat, k ≤ ls.length ∧ i = .int .i64 k ∧ s = .int .i64 ((joinT ls k).length : Nat)) (fun _ i => ls.length - (intOf i).toNat)
  case atStart => exact ⟨0, Nat.zero_le _, rfl, rfl⟩
  case round =>
    obtain ⟨k, hk, rfl, rfl⟩ := hrel
    by_cases hlt : k < ls.length
    · have hkv : k < vs.length := by have := Hlen.out; omega
      have hkk := H.out k hlt hkv
      have hc0 := HB.out.c0 k vs[k] (by simp [hkv])
      have hft : Hid ((joinT ls (k + 1)).length = (joinT ls k).length + ls[k].length) := Lib.hid (by rw [joinT_take ls k hlt, List.length_append])
      have hle1 := Htk.out k
      have hle2 := Htk.out (k + 1)
      rw [hft.out] at hle2
      have hltz : (k : Int) < (ls.length : Int) := by omega
      obtain ⟨-, -, capk, pk, hvk, -⟩ := hkk.form
      rw [hvk] at hc0
      clear hkk hvk
      generalize (joinT ls k).length = s at *
      generalize ls[k].length = m at *
      go_wp2
      go_round
      case rel => exact ⟨k + 1, by omega, by go_num, by rw [hft.out]; go_num⟩
      case measure => simp [intOf]; omega
    · obtain rfl : k = ls.length := by omega
      rw [Hall.out]
      go_wp2_with fail
      refine (growT_w all.length w htot).mono ?_
      rintro e w1 ⟨vg, rfl, hown, _, hbel⟩
      have Hown := Lib.hid hown
      have Hbel := Lib.hid hbel
      clear hown hbel
      go_wp2
      go_loopw [6, 27] (fun s i wr => ∃ k : Nat, k ≤ ls.length ∧ i = .int .i64 k ∧ wr.ownsRow w.heap.size 9 1 s (joinT ls k).length ((joinT ls k).flatMap encT) ∧ Below w.heap.size w wr) (fun _ i _ => ls.length - (intOf i).toNat)
      case atStart => exact ⟨0, Nat.zero_le _, rfl, Hown.out, Hbel.out⟩
      case round =>
        obtain ⟨k, hk, rfl, hown, hbel⟩ := hrel
        have Hown := Lib.hid hown
        have Hbel := Lib.hid hbel
        have hsz := hbel.size
        clear hown hbel
        by_cases hlt : k < ls.length
        · have hkv : k < vs.length := by have := Hlen.out; omega
          have hkk := Lib.hid ((H.out k hlt hkv).below Hbel.out)
          have hc0 := (HB.out.below Hbel.out hblt).c0 k vs[k] (by simp [hkv])
          have hft := Lib.hid (joinT_take ls k hlt)
          have hle2 : (joinT ls k).length + ls[k].length ≤ 1000000000 := by
            have := Htk.out (k + 1); rw [hft.out, List.length_append] at this; omega
          have hltz : (k : Int) < (ls.length : Int) := by omega
          generalize vs[k] = vk at *
          generalize ls[k] = lk at *
          generalize (joinT ls k) = left at *
          go_wp2_with (at_builtin; refine append_any (en := encT) rfl _ _ 35 9 _ 1 16 infoStr Try.underlying35 rfl (by decide) (by decide) lenT ocT rfl w.heap.size _ left rfl Hown.out _ lk rfl hkk.out.row.any (by omega) hsz ?_; intro v' w2 hown2 hbel2)
          have Hown2 := Lib.hid hown2
          have Hbel2 := Lib.hid (Hbel.out.trans hbel2)
          clear hown2 hbel2
          go_wp2
          go_roundw
          case rel => exact ⟨k + 1, by omega, by go_num, by rw [hft.out]; exact Hown2.out, Hbel2.out⟩
          case measure => simp [intOf]; omega
        · obtain rfl : k = ls.length := by omega
          rw [Hall.out] at Hown
          go_wp2
          go_ret
          exact ⟨_, rfl, Hown.out, IsStrs.ownedT Hown.out, Hbel.out⟩

end Go.Proofs.Ythpajecigkfajaa

/-
  Walks: joined lists of pairs.
-/
import Derived.Test.YtdckiaokldkfmaaGreatTW2
namespace Go.Proofs.YtdckiaokldkfmaaGreat
open Go.RowKit Go.Sort
set_option linter.unusedVariables false

/-- The first k lists, joined. -/
def joinK (ls : List (List Pr)) (k : Nat) : List Pr := (ls.take k).flatten
theorem join_zero (ls : List (List Pr)) : joinK ls 0 = [] := rfl
theorem join_all (ls : List (List Pr)) : joinK ls ls.length = ls.flatten := by unfold joinK; rw [List.take_length]
theorem join_take (ls : List (List Pr)) (k : Nat) (h : k < ls.length) : joinK ls (k + 1) = joinK ls k ++ ls[k] := by
  unfold joinK
  rw [List.take_add_one, List.getElem?_eq_getElem h, List.flatten_append]; simp only [Option.toList, List.flatten_cons, List.flatten_nil, List.append_nil]
theorem join_le (ls : List (List Pr)) (k : Nat) : (joinK ls k).length ≤ ls.flatten.length := by
  unfold joinK
  conv => rhs; rw [← List.take_append_drop k ls]
  rw [List.flatten_append, List.length_append]; omega

set_option maxRecDepth 100000 in
set_option maxHeartbeats 4000000 in
theorem concat_w (b : Nat) (vs : List Value) (ls : List (List Pr)) (w : World) (hb : Blk w b 25 vs.toArray) (hlen : vs.length = ls.length) (hlc : ls.length ≤ 1000)
    (h : ∀ i (hi : i < ls.length) (hv : i < vs.length), IsPairs w vs[i] ls[i]) (htot : ls.flatten.length ≤ 100000) :
    Calls Tryz.prog 110 #[.slice (some ⟨b, 0, none⟩) ls.length ls.length] w (OwnOut w.heap.size w ls.flatten) := by
  have Hsm : Hid (∀ x ∈ ls.flatten, x.1.length ≤ maxLen ∧ x.2.1.length ≤ maxLen) := Lib.hid (by
    intro x hx
    obtain ⟨l, hl, hx⟩ := List.mem_flatten.1 hx
    obtain ⟨i, hi, rfl⟩ := List.mem_iff_getElem.1 hl
    exact (h i hi (by omega)).small x hx)
  have hblt := hb.lt
  have HB := Lib.hid hb
  have H := Lib.hid h
  have Hlen := Lib.hid hlen
  have htk := join_le ls
  have hall := join_all ls
  generalize ls.flatten = all at *
  have Hall := Lib.hid hall
  have Htk := Lib.hid htk
  clear h hb hlen htk hall
  go_enter Tryz.func110, Tryz.ntmps110
  go_wp2
  go_loop [3, 11] (fun s i => ∃ k : Nat, k ≤ ls.length ∧ i = .int .i64 k ∧ s = .int .i64 ((joinK ls k).length : Nat)) (fun _ i => ls.length - (intOf i).toNat)
  case atStart => exact ⟨0, Nat.zero_le _, rfl, rfl⟩
  case round =>
    obtain ⟨k, hk, rfl, rfl⟩ := hrel
    by_cases hlt : k < ls.length
    · have hkv : k < vs.length := by have := Hlen.out; omega
      have hkk := H.out k hlt hkv
      have hc0 := HB.out.c0 k vs[k] (by simp [hkv])
      have hft : Hid ((joinK ls (k + 1)).length = (joinK ls k).length + ls[k].length) := Lib.hid (by rw [join_take ls k hlt, List.length_append])
      have hle1 := Htk.out k
      have hle2 := Htk.out (k + 1)
      rw [hft.out] at hle2
      have hltz : (k : Int) < (ls.length : Int) := by omega
      obtain ⟨-, -, capk, pk, hvk, -⟩ := hkk.form
      rw [hvk] at hc0
      clear hkk hvk
      generalize (joinK ls k).length = s at *
      generalize ls[k].length = m at *
      go_wp2
      go_round
      case rel => exact ⟨k + 1, by omega, by go_num, by rw [hft.out]; go_num⟩
      case measure => simp [intOf]; omega
    · obtain rfl : k = ls.length := by omega
      rw [Hall.out]
      go_wp2_with fail
      refine (grow_w all.length w htot).mono ?_
      rintro e w1 ⟨vg, rfl, hown, _, hbel⟩
      have Hown := Lib.hid hown
      have Hbel := Lib.hid hbel
      clear hown hbel
      go_wp2
      go_loopw [6, 27] (fun s i wr => ∃ k : Nat, k ≤ ls.length ∧ i = .int .i64 k ∧ wr.ownsRow w.heap.size 69 3 s (joinK ls k).length ((joinK ls k).flatMap encP) ∧ Below w.heap.size w wr) (fun _ i _ => ls.length - (intOf i).toNat)
      case atStart => exact ⟨0, Nat.zero_le _, rfl, Hown.out, Hbel.out⟩
      case round =>
        obtain ⟨k, hk, rfl, hown, hbel⟩ := hrel
        have Hown := Lib.hid hown
        have Hbel := Lib.hid hbel
        have hsz := hbel.size
        clear hown hbel
        by_cases hlt : k < ls.length
        · have hkv : k < vs.length := by have := Hlen.out; omega
          have hkk := Lib.hid ((H.out k hlt hkv).below Hbel.out)
          have hc0 := (HB.out.below Hbel.out hblt).c0 k vs[k] (by simp [hkv])
          have hft := Lib.hid (join_take ls k hlt)
          have hle2 : (joinK ls k).length + ls[k].length ≤ 100000 := by
            have := Htk.out (k + 1); rw [hft.out, List.length_append] at this; omega
          have hltz : (k : Int) < (ls.length : Int) := by omega
          generalize vs[k] = vk at *
          generalize ls[k] = lk at *
          generalize (joinK ls k) = left at *
          go_wp2_with (at_builtin; refine append_pairs rfl _ _ rfl w.heap.size _ left rfl Hown.out _ lk rfl hkk.out (by omega) hsz ?_; intro v' w2 hown2 hbel2)
          have Hown2 := Lib.hid hown2
          have Hbel2 := Lib.hid (Hbel.out.trans hbel2)
          clear hown2 hbel2
          go_wp2
          go_roundw
          case rel => exact ⟨k + 1, by omega, by go_num, by rw [hft.out]; exact Hown2.out, Hbel2.out⟩
          case measure => simp [intOf]; omega
        · obtain rfl : k = ls.length := by omega
          rw [Hall.out] at Hown
          go_wp2
          go_ret
          exact ⟨_, rfl, Hown.out, IsPairs.owned Hown.out Hsm.out, Hbel.out⟩

end Go.Proofs.YtdckiaokldkfmaaGreat

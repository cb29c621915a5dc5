/-
  Walks: First of package settle.
-/
import Derived.Test.YtfpcaoacbjhkgaaGreatUK
import Derived.Test.YtfpcaoacbjhkgaaGreatRR
namespace Go.Proofs.YtfpcaoacbjhkgaaGreat
open Go.RowKit Go.Sort
set_option linter.unusedVariables false

/-- The place of the first message that crosses, and whether there is one. -/
def firstF (ps : List Bs) : List Ms → Nat → Nat × Bool
  | [], _ => (0, false)
  | m :: r, i => if crossB m ps then (i, true) else firstF ps r (i + 1)
theorem firstF_drop (ps : List Bs) (l : List Ms) (k : Nat) (h : k < l.length) : firstF ps (l.drop k) k = if crossB l[k] ps then (k, true) else firstF ps (l.drop (k + 1)) (k + 1) := by
  rw [List.drop_eq_getElem_cons h, firstF]
theorem firstF_yes {ps : List Bs} : ∀ (l : List Ms) (i : Nat), (firstF ps l i).2 = true → i ≤ (firstF ps l i).1 ∧ (firstF ps l i).1 < i + l.length
  | [], i, h => by cases h
  | m :: r, i, h => by
    rw [firstF] at h ⊢
    split
    · simp
    · rename_i hc
      rw [if_neg hc] at h
      have := firstF_yes r (i + 1) h
      simp only [List.length_cons]
      omega

set_option maxRecDepth 100000 in
set_option maxHeartbeats 4000000 in
theorem sfirst_w (v vp : Value) (l : List Ms) (ps : List Bs) (w : World) (hm : IsMsgs w v l) (hp : IsStrs w vp ps) (hs : SrtP ps) (hz : ∀ m ∈ l, SizeM m) (hl : ps.length ≤ 1000) :
    Calls Tryz.prog 26 #[v, vp] w fun e w' => e = .returned (.tuple #[.int .i64 ((firstF ps l 0).1 : Nat), .bool (firstF ps l 0).2]) ∧ Below w.heap.size w w' := by
  have mixed := mixedA
  obtain ⟨b, off, cap, a, rfl, hlc, hcm, hab, hc⟩ := hm.form
  unfold maxLen at hcm
  have HC : Hid (∀ i (h : i < l.length), a = some ⟨b, off, none⟩ ∧ b < w.heap.size ∧ MAt w b (off + i * 8) l[i]) := Lib.hid (fun i h => ⟨(hc i h).1, (hab (by rintro rfl; simp at h)).2, (hc i h).2⟩)
  have HP := Lib.hid hp
  have HZ := Lib.hid (fun i (h : i < l.length) => hz l[i] (List.getElem_mem h))
  have hcr := Lib.hid (fun m wx (hzm : SizeM m) (hx : Below w.heap.size w wx) => crosses_w m vp ps wx hzm (hp.below hx) hs hl)
  obtain ⟨ap, cp, rfl, -⟩ := id hp
  have HF0 : Hid (firstF ps (l.drop 0) 0 = firstF ps l 0) := Lib.hid rfl
  have HST := Lib.hid (fun k (h : k < l.length) => firstF_drop ps l k h)
  have HFN : Hid (firstF ps (l.drop l.length) l.length = (0, false)) := Lib.hid (by rw [List.drop_length]; rfl)
  clear hm hc hab hp hs hz hl
  generalize firstF ps l 0 = R at *
  go_enter Tryz.func26, Tryz.ntmps26
  go_wp2
  go_loopw [10] (fun i wr => ∃ k : Nat, k ≤ l.length ∧ i = .int .i64 k ∧ Hid (firstF ps (l.drop k) k = R) ∧ Below w.heap.size w wr) (fun i _ => l.length - (intOf i).toNat)
  case atStart => exact ⟨0, Nat.zero_le _, rfl, HF0, Below.refl _ _⟩
  case round =>
    obtain ⟨k, hk, rfl, HR, hbel⟩ := hrel
    have Hbel := Lib.hid hbel
    by_cases hlt : k < l.length
    · have hltz : (k : Int) < (l.length : Int) := by omega
      obtain ⟨rfl, hbl, hma⟩ := HC.out k hlt
      have hzm := HZ.out k hlt
      have hst := HST.out k hlt
      rw [HR.out] at hst
      have hma := hma.below hbel hbl
      generalize l[k] = x at *
      have HX := Lib.hid (fun wx (hx : Below w.heap.size w wx) => hcr.out x wx hzm hx)
      have hbs := hbel.size
      obtain ⟨c0, c1, c2, c3, c4, c5, c6, c7⟩ := hma
      clear hbel hzm
      cases hcb : crossB x ps with
      | true =>
        rw [hcb, if_pos rfl] at hst
        rw [hcb] at HX
        have HE := Lib.hid hst
        clear hst hcb
        go_wp2_with (go_at_call 19; refine (HX.out _ (Hbel.out.alloc hbs _)).mono ?_; rintro e w5 ⟨rfl, hb5⟩; have HB5 := Lib.hid ((Hbel.out.alloc hbs _).trans (hb5.mono (Hbel.out.alloc hbs _).size)); clear hb5)
        go_ret2
        exact ⟨by rw [HE.out]; first | rfl | simp, HB5.out⟩
      | false =>
        rw [hcb, if_neg (by simp)] at hst
        rw [hcb] at HX
        have HE := Lib.hid hst.symm
        clear hst hcb
        go_wp2_with (go_at_call 19; refine (HX.out _ (Hbel.out.alloc hbs _)).mono ?_; rintro e w5 ⟨rfl, hb5⟩; have HB5 := Lib.hid ((Hbel.out.alloc hbs _).trans (hb5.mono (Hbel.out.alloc hbs _).size)); clear hb5)
        go_roundw
        case rel => exact ⟨k + 1, by omega, by go_num, HE, HB5.out⟩
        case measure => simp [intOf]; omega
    · obtain rfl : k = l.length := by omega
      have HE := Lib.hid (HR.out.symm.trans HFN.out)
      clear hbel
      go_wp2
      go_ret2
      exact ⟨by rw [HE.out]; first | rfl | simp, Hbel.out⟩

end Go.Proofs.YtfpcaoacbjhkgaaGreat

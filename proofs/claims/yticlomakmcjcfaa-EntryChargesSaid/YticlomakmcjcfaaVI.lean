/-
  The walk of the law EntryCharges.
-/
import Derived.Test.YticlomakmcjcfaaVH
import Derived.Test.YticlomakmcjcfaaEW9
import Derived.Test.YticlomakmcjcfaaEWB
import Derived.Test.YticlomakmcjcfaaEF
import Derived.Deep.RegionHeld3
import Derived.Deep.DeepCutAuto
namespace Go.Proofs.Yticlomakmcjcfaa
open Go.RowKit Go.Sort
set_option linter.unusedVariables false
set_option maxRecDepth 100000

/-- The boxes of the places and of what is wanted. -/
structure CQ (w : World) (A : Nat) (pc wc : Array Value) (wx : World) : Prop where
  p : Blk wx A 32 pc
  u : Blk wx (A + 1) 83 wc
  bel : Below w.heap.size w wx
theorem CQ.below {w wx wy : World} {A : Nat} {pc wc : Array Value} (h : CQ w A pc wc wx) (hb : Below wx.heap.size wx wy) : CQ w A pc wc wy :=
  ⟨h.p.below hb h.p.lt, h.u.below hb h.u.lt, Below.next h.bel (Nat.le_refl _) hb⟩
def wantU (t : Int) (s : Bs) : Int × Int := if t = 1 then (1, 0) else if t = 2 ∨ t = 3 then (0, s.length) else (0, 0)
theorem charge_key {t n : Int} {p m : Bs} (s : Bs) (ho : ownsS t p = true) (hf : fitsS t n m = true) : chargeS (keyK t p n m) s = wantU t s := by
  unfold chargeS wantU
  rw [place_key ho hf]
/-- What stands in the rows of the law. -/
theorem rows_charge (n m : Nat) (s : Bs) (hn : n < 65536) (hm : m ≤ 60000) : ∀ j, j < 7 → ∃ (p : Bs) (t nn : Int) (mm : Bs) (a b : Int) (k : Bs),
    ((#[.string ⟨#[97, 47, 98, 47]⟩, .int .i64 1, .int .i64 0, .string ⟨#[]⟩, .string ⟨#[]⟩, .int .i64 1, .int .i64 0, .string ⟨#[]⟩, .string ⟨#[97, 47]⟩, .int .i64 2, .int .i64 m, .string ⟨#[]⟩, .string ⟨#[97, 47, 98, 47]⟩, .int .i64 3, .int .i64 0, .string ⟨#[120]⟩, .string ⟨#[97, 47]⟩, .int .i64 4, .int .i64 0, .string ⟨#[]⟩, .string (Str (bodyS n)), .int .i64 1, .int .i64 0, .string ⟨#[]⟩, .string (Str (bodyS n)), .int .i64 2, .int .i64 3, .string ⟨#[]⟩] : Array Value)[j * 4]? = some (.string (Str p)) ∧ (#[.string ⟨#[97, 47, 98, 47]⟩, .int .i64 1, .int .i64 0, .string ⟨#[]⟩, .string ⟨#[]⟩, .int .i64 1, .int .i64 0, .string ⟨#[]⟩, .string ⟨#[97, 47]⟩, .int .i64 2, .int .i64 m, .string ⟨#[]⟩, .string ⟨#[97, 47, 98, 47]⟩, .int .i64 3, .int .i64 0, .string ⟨#[120]⟩, .string ⟨#[97, 47]⟩, .int .i64 4, .int .i64 0, .string ⟨#[]⟩, .string (Str (bodyS n)), .int .i64 1, .int .i64 0, .string ⟨#[]⟩, .string (Str (bodyS n)), .int .i64 2, .int .i64 3, .string ⟨#[]⟩] : Array Value)[j * 4 + 1]? = some (.int .i64 t) ∧ (#[.string ⟨#[97, 47, 98, 47]⟩, .int .i64 1, .int .i64 0, .string ⟨#[]⟩, .string ⟨#[]⟩, .int .i64 1, .int .i64 0, .string ⟨#[]⟩, .string ⟨#[97, 47]⟩, .int .i64 2, .int .i64 m, .string ⟨#[]⟩, .string ⟨#[97, 47, 98, 47]⟩, .int .i64 3, .int .i64 0, .string ⟨#[120]⟩, .string ⟨#[97, 47]⟩, .int .i64 4, .int .i64 0, .string ⟨#[]⟩, .string (Str (bodyS n)), .int .i64 1, .int .i64 0, .string ⟨#[]⟩, .string (Str (bodyS n)), .int .i64 2, .int .i64 3, .string ⟨#[]⟩] : Array Value)[j * 4 + 2]? = some (.int .i64 nn) ∧ (#[.string ⟨#[97, 47, 98, 47]⟩, .int .i64 1, .int .i64 0, .string ⟨#[]⟩, .string ⟨#[]⟩, .int .i64 1, .int .i64 0, .string ⟨#[]⟩, .string ⟨#[97, 47]⟩, .int .i64 2, .int .i64 m, .string ⟨#[]⟩, .string ⟨#[97, 47, 98, 47]⟩, .int .i64 3, .int .i64 0, .string ⟨#[120]⟩, .string ⟨#[97, 47]⟩, .int .i64 4, .int .i64 0, .string ⟨#[]⟩, .string (Str (bodyS n)), .int .i64 1, .int .i64 0, .string ⟨#[]⟩, .string (Str (bodyS n)), .int .i64 2, .int .i64 3, .string ⟨#[]⟩] : Array Value)[j * 4 + 3]? = some (.string (Str mm))) ∧
    ((#[.int .i64 1, .int .i64 0, .int .i64 1, .int .i64 0, .int .i64 0, .int .i64 s.length, .int .i64 0, .int .i64 s.length, .int .i64 0, .int .i64 0, .int .i64 1, .int .i64 0, .int .i64 0, .int .i64 s.length] : Array Value)[j * 2]? = some (.int .i64 a) ∧ (#[.int .i64 1, .int .i64 0, .int .i64 1, .int .i64 0, .int .i64 0, .int .i64 s.length, .int .i64 0, .int .i64 s.length, .int .i64 0, .int .i64 0, .int .i64 1, .int .i64 0, .int .i64 0, .int .i64 s.length] : Array Value)[j * 2 + 1]? = some (.int .i64 b)) ∧ keyF p t nn mm = (k, 0) ∧ p.length ≤ 100 ∧ mm.length ≤ 100 ∧ k.length ≤ 300 ∧ chargeS k s = (a, b) := by
  intro j hj
  have hbody : bodyB (bodyS n) = true := by
    unfold bodyS
    rw [if_neg (by omega)]
    exact body_bodyN _ (by omega)
  have hbl : (bodyS n).length ≤ 100 := by have := bodyB_length hbody; omega
  rcases (by omega : j = 0 ∨ j = 1 ∨ j = 2 ∨ j = 3 ∨ j = 4 ∨ j = 5 ∨ j = 6) with rfl | rfl | rfl | rfl | rfl | rfl | rfl
  · have h1 : keyF [97, 47, 98, 47] 1 0 [] = (keyK 1 [97, 47, 98, 47] 0 [], 0) := by unfold keyF; rw [if_pos ⟨by decide +kernel, by decide +kernel⟩]
    have h2 := charge_key (t := 1) (n := 0) (p := [97, 47, 98, 47]) (m := []) s (by decide +kernel) (by decide +kernel)
    have h3 := keyK_le 1 [97, 47, 98, 47] 0 []
    have h4 : ([97, 47, 98, 47] : Bs).length ≤ 100 := by decide
    have h5 : ([] : Bs).length ≤ 100 := by simp
    exact ⟨[97, 47, 98, 47], 1, 0, [], (wantU 1 s).1, (wantU 1 s).2, _, ⟨rfl, rfl, rfl, rfl⟩, ⟨by simp [wantU], by simp [wantU]⟩, h1, h4, h5, by omega, h2⟩
  · have h1 : keyF [] 1 0 [] = (keyK 1 [] 0 [], 0) := by unfold keyF; rw [if_pos ⟨by decide +kernel, by decide +kernel⟩]
    have h2 := charge_key (t := 1) (n := 0) (p := []) (m := []) s (by decide +kernel) (by decide +kernel)
    have h3 := keyK_le 1 [] 0 []
    have h4 : ([] : Bs).length ≤ 100 := by decide
    have h5 : ([] : Bs).length ≤ 100 := by simp
    exact ⟨[], 1, 0, [], (wantU 1 s).1, (wantU 1 s).2, _, ⟨rfl, rfl, rfl, rfl⟩, ⟨by simp [wantU], by simp [wantU]⟩, h1, h4, h5, by omega, h2⟩
  · have h1 : keyF [97, 47] 2 m [] = (keyK 2 [97, 47] m [], 0) := by unfold keyF; rw [if_pos ⟨by decide +kernel, by simp [fitsS]; omega⟩]
    have h2 := charge_key (t := 2) (n := m) (p := [97, 47]) (m := []) s (by decide +kernel) (by simp [fitsS]; omega)
    have h3 := keyK_le 2 [97, 47] m []
    have h4 : ([97, 47] : Bs).length ≤ 100 := by decide
    have h5 : ([] : Bs).length ≤ 100 := by simp
    exact ⟨[97, 47], 2, m, [], (wantU 2 s).1, (wantU 2 s).2, _, ⟨rfl, rfl, rfl, rfl⟩, ⟨by simp [wantU], by simp [wantU]⟩, h1, h4, h5, by omega, h2⟩
  · have h1 : keyF [97, 47, 98, 47] 3 0 [120] = (keyK 3 [97, 47, 98, 47] 0 [120], 0) := by unfold keyF; rw [if_pos ⟨by decide +kernel, by decide +kernel⟩]
    have h2 := charge_key (t := 3) (n := 0) (p := [97, 47, 98, 47]) (m := [120]) s (by decide +kernel) (by decide +kernel)
    have h3 := keyK_le 3 [97, 47, 98, 47] 0 [120]
    have h4 : ([97, 47, 98, 47] : Bs).length ≤ 100 := by decide
    have h5 : ([120] : Bs).length ≤ 100 := by simp
    exact ⟨[97, 47, 98, 47], 3, 0, [120], (wantU 3 s).1, (wantU 3 s).2, _, ⟨rfl, rfl, rfl, rfl⟩, ⟨by simp [wantU], by simp [wantU]⟩, h1, h4, h5, by omega, h2⟩
  · have h1 : keyF [97, 47] 4 0 [] = (keyK 4 [97, 47] 0 [], 0) := by unfold keyF; rw [if_pos ⟨by decide +kernel, by decide +kernel⟩]
    have h2 := charge_key (t := 4) (n := 0) (p := [97, 47]) (m := []) s (by decide +kernel) (by decide +kernel)
    have h3 := keyK_le 4 [97, 47] 0 []
    have h4 : ([97, 47] : Bs).length ≤ 100 := by decide
    have h5 : ([] : Bs).length ≤ 100 := by simp
    exact ⟨[97, 47], 4, 0, [], (wantU 4 s).1, (wantU 4 s).2, _, ⟨rfl, rfl, rfl, rfl⟩, ⟨by simp [wantU], by simp [wantU]⟩, h1, h4, h5, by omega, h2⟩
  · have h1 : keyF (bodyS n) 1 0 [] = (keyK 1 (bodyS n) 0 [], 0) := by unfold keyF; rw [if_pos ⟨by unfold ownsS; rw [if_pos (by omega), hbody]; simp, by decide +kernel⟩]
    have h2 := charge_key (t := 1) (n := 0) (p := (bodyS n)) (m := []) s (by unfold ownsS; rw [if_pos (by omega), hbody]; simp) (by decide +kernel)
    have h3 := keyK_le 1 (bodyS n) 0 []
    have h4 : ((bodyS n) : Bs).length ≤ 100 := hbl
    have h5 : ([] : Bs).length ≤ 100 := by simp
    exact ⟨(bodyS n), 1, 0, [], (wantU 1 s).1, (wantU 1 s).2, _, ⟨rfl, rfl, rfl, rfl⟩, ⟨by simp [wantU], by simp [wantU]⟩, h1, h4, h5, by omega, h2⟩
  · have h1 : keyF (bodyS n) 2 3 [] = (keyK 2 (bodyS n) 3 [], 0) := by unfold keyF; rw [if_pos ⟨by unfold ownsS; rw [if_pos (by omega), hbody]; simp, by decide +kernel⟩]
    have h2 := charge_key (t := 2) (n := 3) (p := (bodyS n)) (m := []) s (by unfold ownsS; rw [if_pos (by omega), hbody]; simp) (by decide +kernel)
    have h3 := keyK_le 2 (bodyS n) 3 []
    have h4 : ((bodyS n) : Bs).length ≤ 100 := hbl
    have h5 : ([] : Bs).length ≤ 100 := by simp
    exact ⟨(bodyS n), 2, 3, [], (wantU 2 s).1, (wantU 2 s).2, _, ⟨rfl, rfl, rfl, rfl⟩, ⟨by simp [wantU], by simp [wantU]⟩, h1, h4, h5, by omega, h2⟩

set_option maxHeartbeats 8000000 in
theorem entryCharges_walk (w : World) (v0 : Value) (n : Nat) (h0 : IsU16 w v0 n) (v1 : Value) (s : Bs) (h1 : IsStr w v1 s) (v2 : Value) (st : Int) (h2 : IsInt w v2 st) :
    Calls Try.prog 10 #[v0, v1, v2] w fun e w' => e = .returned (.bool true) ∧ Below w.heap.size w w' := by
  obtain ⟨rfl, hn⟩ := h0
  obtain ⟨rfl, hs⟩ := h1
  have h2' := h2
  unfold IsInt at h2'
  subst h2'
  unfold maxLen at hs
  by_cases hlen : 64 < (s.length : Int)
  · go_enter Try.func10, Try.ntmps10
    go_wp2_with (go_at_call 59; refine (sanity_w _).mono ?_; rintro e w1 ⟨rfl, hb⟩)
    go_ret
    exact ⟨rfl, hb⟩
  · obtain ⟨m, hm⟩ : ∃ m, m = n % 60001 := ⟨_, rfl⟩
    have hm6 : m ≤ 60000 := by omega
    have hn7 : (n : Int) % 60001 = (m : Int) := by omega
    have Hbo := Lib.hid (fun wx => refBody_w (n : Int) wx)
    clear hm
    go_enter Try.func10, Try.ntmps10
    go_wp2_with (first
      | (go_at_call 59; refine (sanity_w _).mono ?_; rintro e w1 ⟨rfl, hb⟩; have HE1 := Lib.hid hb; clear hb)
      | (go_at_call 70; refine (Hbo.out _).mono ?_; rintro e w2 ⟨rfl, hb⟩; replace HE1 := Lib.hid (Below.next HE1.out (Nat.le_refl _) hb); clear hb)
      | fail)
    have HQ0 : Hid (CQ w w2.heap.size #[.string ⟨#[97, 47, 98, 47]⟩, .int .i64 1, .int .i64 0, .string ⟨#[]⟩, .string ⟨#[]⟩, .int .i64 1, .int .i64 0, .string ⟨#[]⟩, .string ⟨#[97, 47]⟩, .int .i64 2, .int .i64 m, .string ⟨#[]⟩, .string ⟨#[97, 47, 98, 47]⟩, .int .i64 3, .int .i64 0, .string ⟨#[120]⟩, .string ⟨#[97, 47]⟩, .int .i64 4, .int .i64 0, .string ⟨#[]⟩, .string (Str (bodyS n)), .int .i64 1, .int .i64 0, .string ⟨#[]⟩, .string (Str (bodyS n)), .int .i64 2, .int .i64 3, .string ⟨#[]⟩] #[.int .i64 1, .int .i64 0, .int .i64 1, .int .i64 0, .int .i64 0, .int .i64 s.length, .int .i64 0, .int .i64 s.length, .int .i64 0, .int .i64 0, .int .i64 1, .int .i64 0, .int .i64 0, .int .i64 s.length] ((w2.alloc (.cells #[.string ⟨#[97, 47, 98, 47]⟩, .int .i64 1, .int .i64 0, .string ⟨#[]⟩, .string ⟨#[]⟩, .int .i64 1, .int .i64 0, .string ⟨#[]⟩, .string ⟨#[97, 47]⟩, .int .i64 2, .int .i64 m, .string ⟨#[]⟩, .string ⟨#[97, 47, 98, 47]⟩, .int .i64 3, .int .i64 0, .string ⟨#[120]⟩, .string ⟨#[97, 47]⟩, .int .i64 4, .int .i64 0, .string ⟨#[]⟩, .string (Str (bodyS n)), .int .i64 1, .int .i64 0, .string ⟨#[]⟩, .string (Str (bodyS n)), .int .i64 2, .int .i64 3, .string ⟨#[]⟩] 32)).alloc (.cells #[.int .i64 1, .int .i64 0, .int .i64 1, .int .i64 0, .int .i64 0, .int .i64 s.length, .int .i64 0, .int .i64 s.length, .int .i64 0, .int .i64 0, .int .i64 1, .int .i64 0, .int .i64 0, .int .i64 s.length] 83))) := Lib.hid ⟨(Blk.new _ _ _).alloc _, Blk.new' _ _ _ (by simp), (HE1.out.alloc HE1.out.size _).alloc (Nat.le_trans HE1.out.size (by simp)) _⟩
    have hrow := rows_charge n m s hn hm6
    have Hrow := Lib.hid hrow
    clear hrow HE1 Hbo
    go_loopw [10] (fun i wr => ∃ j : Nat, j ≤ 7 ∧ i = .int .i64 j ∧ CQ w w2.heap.size #[.string ⟨#[97, 47, 98, 47]⟩, .int .i64 1, .int .i64 0, .string ⟨#[]⟩, .string ⟨#[]⟩, .int .i64 1, .int .i64 0, .string ⟨#[]⟩, .string ⟨#[97, 47]⟩, .int .i64 2, .int .i64 m, .string ⟨#[]⟩, .string ⟨#[97, 47, 98, 47]⟩, .int .i64 3, .int .i64 0, .string ⟨#[120]⟩, .string ⟨#[97, 47]⟩, .int .i64 4, .int .i64 0, .string ⟨#[]⟩, .string (Str (bodyS n)), .int .i64 1, .int .i64 0, .string ⟨#[]⟩, .string (Str (bodyS n)), .int .i64 2, .int .i64 3, .string ⟨#[]⟩] #[.int .i64 1, .int .i64 0, .int .i64 1, .int .i64 0, .int .i64 0, .int .i64 s.length, .int .i64 0, .int .i64 s.length, .int .i64 0, .int .i64 0, .int .i64 1, .int .i64 0, .int .i64 0, .int .i64 s.length] wr) (fun i _ => 7 - (intOf i).toNat)
    case atStart => exact ⟨0, by omega, rfl, HQ0.out⟩
    case round =>
      obtain ⟨j, hj, rfl, hQ⟩ := hrel
      by_cases hlt : j < 7
      · obtain ⟨p, t, nn, mm, a, b, k, g, g2, hk, hpl, hml, hkl, hc⟩ := Hrow.out j hlt
        have hj7 : (j : Int) < 7 := by omega
        obtain ⟨g0, g1, g2', g3⟩ := g
        obtain ⟨d0, d1⟩ := g2
        have Hk := Lib.hid (fun wx => rkey_w t nn p mm wx (by omega) (by omega))
        rw [hk] at Hk
        simp only at Hk
        have Hc1 := Lib.hid (fun wx => charge_w k s st wx (by unfold maxLen; omega) (by unfold maxLen; omega))
        have Hc2 := Lib.hid (fun wx => charge_w k s 0 wx (by unfold maxLen; omega) (by unfold maxLen; omega))
        rw [hc] at Hc1 Hc2
        simp only at Hc1 Hc2
        have c0 := (hQ.p.cell (j * 4)).trans g0
        have c1 := (hQ.p.cell (j * 4 + 1)).trans g1
        have c2 := (hQ.p.cell (j * 4 + 2)).trans g2'
        have c3 := (hQ.p.cell (j * 4 + 3)).trans g3
        have hu : ∀ wx, CQ w w2.heap.size #[.string ⟨#[97, 47, 98, 47]⟩, .int .i64 1, .int .i64 0, .string ⟨#[]⟩, .string ⟨#[]⟩, .int .i64 1, .int .i64 0, .string ⟨#[]⟩, .string ⟨#[97, 47]⟩, .int .i64 2, .int .i64 m, .string ⟨#[]⟩, .string ⟨#[97, 47, 98, 47]⟩, .int .i64 3, .int .i64 0, .string ⟨#[120]⟩, .string ⟨#[97, 47]⟩, .int .i64 4, .int .i64 0, .string ⟨#[]⟩, .string (Str (bodyS n)), .int .i64 1, .int .i64 0, .string ⟨#[]⟩, .string (Str (bodyS n)), .int .i64 2, .int .i64 3, .string ⟨#[]⟩] #[.int .i64 1, .int .i64 0, .int .i64 1, .int .i64 0, .int .i64 0, .int .i64 s.length, .int .i64 0, .int .i64 s.length, .int .i64 0, .int .i64 0, .int .i64 1, .int .i64 0, .int .i64 0, .int .i64 s.length] wx → wx.cell? ⟨w2.heap.size + 1, j * 2, none⟩ = some (.int .i64 a) ∧ wx.cell? ⟨w2.heap.size + 1, j * 2 + 1, none⟩ = some (.int .i64 b) := fun wx h => ⟨(h.u.cell (j * 2)).trans d0, (h.u.cell (j * 2 + 1)).trans d1⟩
        have Hu := Lib.hid hu
        have HQ := Lib.hid hQ
        clear hQ hu g0 g1 g2' g3 d0 d1 hk hc Hrow HQ0
        go_wp2_with (first
          | (go_at_call 32; (with_reducible refine (Hk.out _).mono ?_); rintro e wy ⟨rfl, hb⟩; replace HQ := Lib.hid (HQ.out.below hb); clear hb)
          | fail)
        have HL0 : Hid (Below wy.heap.size wy wy) := Lib.hid (Below.refl _ _)
        have e0 : ∀ wx, Below wy.heap.size wy wx → wx.cell? ⟨w2.heap.size + 1, j * 2, none⟩ = some (.int .i64 a) := fun wx hx => (Hu.out _ (HQ.out.below hx)).1
        have e1 : ∀ wx, Below wy.heap.size wy wx → wx.cell? ⟨w2.heap.size + 1, j * 2 + 1, none⟩ = some (.int .i64 b) := fun wx hx => (Hu.out _ (HQ.out.below hx)).2
        have G1 : Hid (∀ wx, Below wy.heap.size wy wx → Calls Try.prog 60 #[.agg #[.string (Str k), .string (Str s), .int .i64 st]] wx fun e w' => e = .returned (.agg #[.int .i64 a, .int .i64 b]) ∧ Below wy.heap.size wy w') := Lib.hid (fun wx hx => (Hc1.out wx).mono fun e w' ⟨h1, h2⟩ => ⟨h1, hx.trans (h2.mono hx.size)⟩)
        have G2 : Hid (∀ wx, Below wy.heap.size wy wx → Calls Try.prog 60 #[.agg #[.string (Str k), .string (Str s), .int .i64 0]] wx fun e w' => e = .returned (.agg #[.int .i64 a, .int .i64 b]) ∧ Below wy.heap.size wy w') := Lib.hid (fun wx hx => (Hc2.out wx).mono fun e w' ⟨h1, h2⟩ => ⟨h1, hx.trans (h2.mono hx.size)⟩)
        clear Hc1 Hc2 Hu Hk c0 c1 c2 c3
        go_region_held3 (fun wx => Below wy.heap.size wy wx)
          (repeat (first | with_reducible assumption | with_reducible exact HL0.out | with_reducible refine Below.drew ?_))
          (first
            | (go_at_call_of 60 (Value.agg #[.string (Str k), .string (Str s), .int .i64 st]); (with_reducible refine (G1.out _ (by repeat (first | with_reducible assumption | with_reducible exact HL0.out | with_reducible refine Below.drew ?_))).mono ?_); rintro e2 y2 ⟨rfl, hS2⟩)
            | (go_at_call 60; (with_reducible refine (G2.out _ (by repeat (first | with_reducible assumption | with_reducible exact HL0.out | with_reducible refine Below.drew ?_))).mono ?_); rintro e3 y3 ⟨rfl, hS3⟩)
            | fail "no arm")
        have HF := Lib.hid (HQ.out.below hS3)
        clear hS2 hS3 e0 e1 G1 G2 HQ
        go_wp2
        go_roundw
        case rel => exact ⟨j + 1, by omega, by go_num, HF.out⟩
        case measure => simp [intOf]; omega
      · obtain rfl : j = 7 := by omega
        have HQ := Lib.hid hQ
        clear hQ
        go_wp2
        go_ret
        exact ⟨rfl, HQ.out.bel⟩

end Go.Proofs.Yticlomakmcjcfaa

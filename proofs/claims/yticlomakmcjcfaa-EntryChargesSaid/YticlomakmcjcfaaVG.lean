/-
  Walks: the reference's IsBody, right, Key.
-/
import Derived.Test.YticlomakmcjcfaaVF
namespace Go.Proofs.Yticlomakmcjcfaa
open Go.RowKit Go.Sort
set_option linter.unusedVariables false
set_option maxRecDepth 100000

theorem idF_take (l : Bs) : ∀ k, k ≤ l.length → -(12 * ((16 : Int) ^ k - 1)) ≤ idF (l.take k) ∧ idF (l.take k) ≤ 12 * ((16 : Int) ^ k - 1) := by
  intro k
  induction k with
  | zero => intro _; simp [idF]
  | succ k ih =>
    intro h
    have := ih (by omega)
    have ht : l.take (k + 1) = l.take k ++ [l[k]] := by rw [List.take_add_one, List.getElem?_eq_getElem (by omega)]; rfl
    rw [ht, idF_snoc]
    have hd := dvI_le l[k]
    have hp : (16 : Int) ^ (k + 1) = 16 ^ k * 16 := Int.pow_succ _ _
    rw [hp]
    constructor <;> omega
theorem idF_small {l : Bs} (h : l.length ≤ 8) : -60000000000 ≤ idF l ∧ idF l ≤ 60000000000 := by
  have h1 := idF_take l l.length (Nat.le_refl _)
  rw [List.take_length] at h1
  have h2 : (16 : Int) ^ l.length ≤ 16 ^ 8 := by exact_mod_cast Nat.pow_le_pow_right (by decide) h
  have h3 : (16 : Int) ^ 8 = 4294967296 := by decide
  rw [h3] at h2
  constructor <;> omega

set_option maxHeartbeats 4000000 in
theorem risBody_w (p : Bs) (w : World) (hp : p.length ≤ maxLen) :
    Calls Try.prog 139 #[.string (Str p)] w fun e w' => e = .returned (.bool (bodyB p)) ∧ Below w.heap.size w w' := by
  unfold maxLen at hp
  by_cases hz : p.length = 10
  · have H : Hid (bodyB p = (bodyS (idF ((p.drop 1).take 8)) == p)) := Lib.hid (body_id hz).symm
    have hzb : ((p.length : Int) != 10) = false := by rw [hz]; rfl
    go_enter Try.func139, Try.ntmps139
    go_wp2
    go_loopw [3, 4] (fun d i wr => ∃ k : Nat, k ≤ 8 ∧ i = .int .i64 (k + 1 : Nat) ∧ d = .int .i64 (idF ((p.drop 1).take k)) ∧ wr = w) (fun _ i _ => 9 - (intOf i).toNat)
    case atStart => exact ⟨0, by omega, rfl, rfl, rfl⟩
    case round =>
      obtain ⟨k, hk, rfl, rfl, rfl⟩ := hrel
      by_cases hlt : k < 8
      · have hi : k + 1 < p.length := by omega
        have ht : (p.drop 1).take (k + 1) = (p.drop 1).take k ++ [p[k + 1]] := by
          rw [List.take_add_one, List.getElem?_drop, Nat.add_comm 1 k, List.getElem?_eq_getElem hi]; rfl
        have Hs : Hid (idF ((p.drop 1).take (k + 1)) = 16 * idF ((p.drop 1).take k) + dvI p[k + 1]) := Lib.hid (by rw [ht, idF_snoc])
        have hb := idF_small (l := (p.drop 1).take k) (by simp; omega)
        have hc := (p[k + 1]).toNat_lt
        have hdv : (48 ≤ (p[k + 1]).toNat ∧ (p[k + 1]).toNat ≤ 57 ∧ dvI p[k + 1] = ((p[k + 1]).toNat : Int) - 48) ∨ ((¬ (48 ≤ (p[k + 1]).toNat ∧ (p[k + 1]).toNat ≤ 57)) ∧ dvI p[k + 1] = ((p[k + 1]).toNat : Int) - 87) := by
          unfold dvI
          split
          · rename_i h; exact .inl ⟨h.1, h.2, rfl⟩
          · rename_i h; exact .inr ⟨h, rfl⟩
        have Hdv := Lib.hid hdv
        clear hdv ht
        generalize idF ((p.drop 1).take k) = x at *
        generalize dvI p[k + 1] = y at *
        go_wp2
        all_goals
          go_roundw
          case rel => exact ⟨k + 1, by omega, by go_num, by (rw [Hs.out]; congr 1; have := Hdv.out; go_light; (try simp only [IntKind.wrap_i64]); omega), (by first | rfl | trivial)⟩
          case measure => simp [intOf]; omega
      · obtain rfl : k = 8 := by omega
        have Hb := Lib.hid (fun wx => refBody_w (idF ((p.drop 1).take 8)) wx)
        generalize idF ((p.drop 1).take 8) = x at *
        go_wp2_with (go_at_call 70; refine (Hb.out _).mono ?_; rintro e w1 ⟨rfl, hb⟩)
        go_ret
        exact ⟨ret_bool (by rw [H.out]), hb⟩
  · have hzb : ((p.length : Int) != 10) = true := by simp; omega
    have H : Hid (bodyB p = false) := Lib.hid (bodyB_len hz)
    go_enter Try.func139, Try.ntmps139
    go_wp2
    go_ret
    exact ⟨ret_bool H.out.symm, Below.refl _ _⟩


theorem conv2 {n k : Nat} (W : World) (T : TypeId) (a b : Int) (h : n = W.heap.size) :
    (convert 22 9 (.slice (some ⟨n, 0, none⟩) 2 k)).run Try.prog (W.alloc (.cells #[.int .u8 a, .int .u8 b] T)) =
      .ok (.string (Str [UInt8.ofNat a.toNat, UInt8.ofNat b.toNat])) (W.alloc (.cells #[.int .u8 a, .int .u8 b] T)) := conv_u8s W T [a, b] h
attribute [go_sem] conv2

/-- An argument's box: a place. -/
def XAt (p : Bs) (t n : Int) (m : Bs) (w wx : World) : Prop := Blk wx w.heap.size 32 #[.string (Str p), .int .i64 t, .int .i64 n, .string (Str m)] ∧ Below w.heap.size w wx
theorem XAt.new (p : Bs) (t n : Int) (m : Bs) (w : World) : XAt p t n m w (w.alloc (.cells #[.string (Str p), .int .i64 t, .int .i64 n, .string (Str m)] 32)) := ⟨Blk.new _ _ _, (Below.refl _ w).alloc (Nat.le_refl _) _⟩
theorem XAt.below {p : Bs} {t n : Int} {m : Bs} {w wx wy : World} (h : XAt p t n m w wx) (hb : Below wx.heap.size wx wy) : XAt p t n m w wy := ⟨h.1.below hb h.1.lt, Below.next h.2 (Nat.le_refl _) hb⟩
theorem XAt.facts {p : Bs} {t n : Int} {m : Bs} {w wx : World} (h : XAt p t n m w wx) : wx.cell? ⟨w.heap.size, 0, none⟩ = some (.string (Str p)) ∧ wx.cell? ⟨w.heap.size, 1, none⟩ = some (.int .i64 t) ∧ wx.cell? ⟨w.heap.size, 2, none⟩ = some (.int .i64 n) ∧ wx.cell? ⟨w.heap.size, 3, none⟩ = some (.string (Str m)) :=
  ⟨h.1.cell 0, h.1.cell 1, h.1.cell 2, h.1.cell 3⟩

set_option maxHeartbeats 8000000 in
theorem rright_w (t n : Int) (p m : Bs) (w : World) (hp : p.length ≤ 90000) (hm : m.length ≤ 90000) :
    Calls Try.prog 107 #[.agg #[.string (Str p), .int .i64 t, .int .i64 n, .string (Str m)]] w fun e w' => e = .returned (.bool (ownsS t p && fitsS t n m)) ∧ Below w.heap.size w w' := by
  have Hv := Lib.hid (fun wx => rvalid_w p wx hp)
  have Hb := Lib.hid (fun wx => risBody_w p wx (by unfold maxLen; omega))
  have Hn := Lib.hid (fun wx => rname_w m wx (by unfold maxLen; omega))
  have HB := Lib.hid (XAt.new p t n m w)
  have ht : t = 1 ∨ t = 2 ∨ t = 3 ∨ t = 4 ∨ ((t == 1) = false ∧ (t == 2) = false ∧ (t == 3) = false ∧ (t == 4) = false ∧ (t != 2) = true ∧ (t != 3) = true ∧ (¬ t = 1 ∧ ¬ t = 2 ∧ ¬ t = 3 ∧ ¬ t = 4)) := by
    by_cases h1 : t = 1
    · exact .inl h1
    · by_cases h2 : t = 2
      · exact .inr (.inl h2)
      · by_cases h3 : t = 3
        · exact .inr (.inr (.inl h3))
        · by_cases h4 : t = 4
          · exact .inr (.inr (.inr (.inl h4)))
          · right; right; right; right
            refine ⟨by simpa using h1, by simpa using h2, by simpa using h3, by simpa using h4, by simpa using h2, by simpa using h3, h1, h2, h3, h4⟩
  have hnn : n = 0 ∨ ((n != 0) = true ∧ ¬ n = 0) := by
    by_cases h : n = 0
    · exact .inl h
    · exact .inr ⟨by simpa using h, h⟩
  have hmm : m = [] ∨ ((m != []) = true ∧ ¬ m = []) := by
    by_cases h : m = []
    · exact .inl h
    · exact .inr ⟨by simpa using h, h⟩
  have hNN : ∃ b, nameB m = b := ⟨_, rfl⟩
  have hVB : (validB p = true ∧ ∃ b, bodyB p = b) ∨ (validB p = false ∧ ∃ b, bodyB p = b ∧ (b = true ∨ b = false)) := by
    cases validB p
    · right; exact ⟨rfl, bodyB p, rfl, by cases bodyB p; exact .inr rfl; exact .inl rfl⟩
    · left; exact ⟨rfl, _, rfl⟩
  rcases ht with rfl | rfl | rfl | rfl | ⟨g1, g2, g3, g4, g5, g6, g7⟩
  case' inr.inr.inl => cases hN3 : nameB m
  all_goals obtain ⟨nb, hN⟩ := hNN
  case' inr.inr.inl.false => (rw [hN3] at hN; subst hN; have hN := hN3)
  case' inr.inr.inl.true => (rw [hN3] at hN; subst hN; have hN := hN3)
  all_goals rcases hnn with rfl | ⟨n1, n2⟩
  all_goals rcases hVB with ⟨hV, bb, hBo⟩ | ⟨hV, bb, hBo, rfl | rfl⟩
  all_goals rcases hmm with rfl | ⟨m1, m2⟩
  all_goals
    have HV := Lib.hid hV
    have HBo := Lib.hid hBo
    have HN := Lib.hid hN
    clear hV hBo hN
    go_enter Try.func107, Try.ntmps107
    go_wp2_with (first
      | (go_at_call 23; refine (Hv.out _).mono ?_; rw [HV.out]; rintro e w1 ⟨rfl, hb⟩; have P1 := HB.out.below hb; replace HB := Lib.hid P1; (try clear c0 c1 c2 c3); obtain ⟨c0, c1, c2, c3⟩ := P1.facts; clear hb P1)
      | (go_at_call 139; refine (Hb.out _).mono ?_; rw [HBo.out]; rintro e w1 ⟨rfl, hb⟩; have P1 := HB.out.below hb; replace HB := Lib.hid P1; (try clear c0 c1 c2 c3); obtain ⟨c0, c1, c2, c3⟩ := P1.facts; clear hb P1)
      | (go_at_call 96; refine (Hn.out _).mono ?_; rw [HN.out]; rintro e w1 ⟨rfl, rfl⟩))
  all_goals
    go_ret
    refine ⟨ret_bool ?_, HB.out.2⟩
    have q1 := HV.out
    have q2 := HBo.out
    have q3 := HN.out
    first
      | (simp_all [ownsS, fitsS]; done)
      | (simp_all [ownsS, fitsS]; omega)

end Go.Proofs.Yticlomakmcjcfaa

/-
  Walks: the kinds of package entry, what they check, write and read.
-/
import Derived.Test.YticlomakmcjcfaaEW3
import Derived.Laws.StructEq
import Derived.Laws.EntriesVeiled
import Derived.Deep.RegionHeld3
import Derived.Lib.AppendStr
namespace Go.Proofs.Yticlomakmcjcfaa
open Go.RowKit Go.Sort
set_option linter.unusedVariables false

/-- Two entries agree in all fields. -/
def entQ (k s l i o : Int) (t : Bs) (k' s' l' i' o' : Int) (t' : Bs) : Bool := decide (k = k' ∧ s = s' ∧ l = l' ∧ i = i' ∧ o = o' ∧ t = t')

set_option maxHeartbeats 400000 in
theorem eql_ent (k s l i o : Int) (t : ByteArray) (k' s' l' i' o' : Int) (t' : ByteArray) (w : World) :
    (binOp .eql 78 (.agg #[.int .i64 k, .int .i64 s, .int .i64 l, .int .i64 i, .int .i64 o, .string t]) (.agg #[.int .i64 k', .int .i64 s', .int .i64 l', .int .i64 i', .int .i64 o', .string t'])).run Try.prog w =
      .ok (.bool (entQ k s l i o t.toList k' s' l' i' o' t'.toList)) w := by
  by_cases h1 : k = k'
  · by_cases h2 : s = s'
    · by_cases h3 : l = l'
      · by_cases h4 : i = i'
        · by_cases h5 : o = o'
          · by_cases h6 : t.toList = t'.toList
            · have e : entQ k s l i o t.toList k' s' l' i' o' t'.toList = true := by simp [entQ, h1, h2, h3, h4, h5, h6]
              rw [e]
              go_simp
            · have e : entQ k s l i o t.toList k' s' l' i' o' t'.toList = false := by simp [entQ, h6]
              rw [e]
              go_simp
          · have e : entQ k s l i o t.toList k' s' l' i' o' t'.toList = false := by simp [entQ, h5]
            rw [e]
            go_simp
        · have e : entQ k s l i o t.toList k' s' l' i' o' t'.toList = false := by simp [entQ, h4]
          rw [e]
          go_simp
      · have e : entQ k s l i o t.toList k' s' l' i' o' t'.toList = false := by simp [entQ, h3]
        rw [e]
        go_simp
    · have e : entQ k s l i o t.toList k' s' l' i' o' t'.toList = false := by simp [entQ, h2]
      rw [e]
      go_simp
  · have e : entQ k s l i o t.toList k' s' l' i' o' t'.toList = false := by simp [entQ, h1]
    rw [e]
    go_simp

set_option maxHeartbeats 400000 in
theorem k1_w (k s l i o : Int) (t : Bs) (w : World) :
    Calls Try.prog 143 #[.agg #[.int .i64 k, .int .i64 s, .int .i64 l, .int .i64 i, .int .i64 o, .string (Str t)]] w fun e w' => e = .returned (.bool (entQ k s l i o t 0 0 0 0 0 [])) ∧ Grown w w' := by
  have heq := eql_ent
  go_enter Try.func143, Try.ntmps143
  go_wp2
  go_ret
  exact ⟨rfl, grown_box _⟩

set_option maxHeartbeats 400000 in
theorem fileFits_w (k s l i o : Int) (t : Bs) (w : World) :
    Calls Try.prog 146 #[.agg #[.int .i64 k, .int .i64 s, .int .i64 l, .int .i64 i, .int .i64 o, .string (Str t)]] w fun e w' => e = .returned (.bool (entQ k s l i o t 0 s l 0 0 [] && inB s 60000 && inB l 1000)) ∧ Grown w w' := by
  have heq := eql_ent
  go_enter Try.func146, Try.ntmps146
  go_wp2
  all_goals
    go_ret
    refine ⟨ret_bool ?_, grown_box _⟩
    clear heq
    first
      | (simp_all [inB]; done)
      | (simp_all [inB]; omega)

set_option maxHeartbeats 400000 in
theorem k4_w (k s l i o : Int) (t : Bs) (w : World) (ht : t.length ≤ maxLen) :
    Calls Try.prog 149 #[.agg #[.int .i64 k, .int .i64 s, .int .i64 l, .int .i64 i, .int .i64 o, .string (Str t)]] w fun e w' => e = .returned (.bool (entQ k s l i o t 0 0 0 0 0 t && textB t)) ∧ Grown w w' := by
  have heq := eql_ent
  have hx := fun wx => isText_w (Str t) wx (by rw [size_Str]; exact ht)
  simp only [toList_Str] at hx
  have Hx := Lib.hid hx
  clear hx
  go_enter Try.func149, Try.ntmps149
  go_wp2_with (go_at_call 150; refine (Hx.out _).mono ?_; rintro e w' ⟨rfl, rfl⟩)
  all_goals
    go_ret
    refine ⟨ret_bool ?_, grown_box _⟩
    clear heq
    first
      | (simp_all; done)

set_option maxHeartbeats 400000 in
theorem k7_w (k s l i o : Int) (t : Bs) (w : World) :
    Calls Try.prog 153 #[.agg #[.int .i64 k, .int .i64 s, .int .i64 l, .int .i64 i, .int .i64 o, .string (Str t)]] w fun e w' => e = .returned (.bool (entQ k s l i o t 0 0 0 i 0 [] && inB i 2147483647)) ∧ Grown w w' := by
  have heq := eql_ent
  have hx := fun wx => within_w i 2147483647 wx
  have Hx := Lib.hid hx
  clear hx
  go_enter Try.func153, Try.ntmps153
  go_wp2_with (go_at_call 121; refine (Hx.out _).mono ?_; rintro e w' ⟨rfl, rfl⟩)
  all_goals
    go_ret
    refine ⟨ret_bool ?_, grown_box _⟩
    clear heq
    first
      | (simp_all; done)

set_option maxHeartbeats 400000 in
theorem k2_w (v : Value) (k s l i o : Int) (t : Bs) (w : World) :
    Calls Try.prog 144 #[v, .agg #[.int .i64 k, .int .i64 s, .int .i64 l, .int .i64 i, .int .i64 o, .string (Str t)]] w fun e w' => e = .returned v ∧ Grown w w' := by
  go_enter Try.func144, Try.ntmps144
  go_wp2
  go_ret
  exact ⟨rfl, grown_box _⟩

set_option maxRecDepth 100000 in
set_option maxHeartbeats 1000000 in
theorem fileBytes_w (B : Nat) (v : Value) (L : Bs) (k s l i o : Int) (t : Bs) (w : World) (hL : L.length ≤ 4) (ho : OwnB w B v L) (hB : B ≤ w.heap.size) (hs0 : 0 ≤ s) (hs : s < 65536) (hl0 : 0 ≤ l) (hl : l < 65536) :
    Calls Try.prog 147 #[v, .agg #[.int .i64 k, .int .i64 s, .int .i64 l, .int .i64 i, .int .i64 o, .string (Str t)]] w fun e w' => ∃ v', e = .returned v' ∧ OwnB w' B v' (L ++ (bytesN 2 s.toNat ++ bytesN 2 l.toNat)) ∧ Below B w w' := by
  have HK : Hid (Blk (w.alloc (.cells #[.int .i64 k, .int .i64 s, .int .i64 l, .int .i64 i, .int .i64 o, .string (Str t)] 78)) w.heap.size 78 #[.int .i64 k, .int .i64 s, .int .i64 l, .int .i64 i, .int .i64 o, .string (Str t)]) := Lib.hid (Blk.new _ _ _)
  have HB1 : Hid (Below B w (w.alloc (.cells #[.int .i64 k, .int .i64 s, .int .i64 l, .int .i64 i, .int .i64 o, .string (Str t)] 78))) := Lib.hid ((Below.refl _ _).alloc hB _)
  have Ho : Hid (OwnB (w.alloc (.cells #[.int .i64 k, .int .i64 s, .int .i64 l, .int .i64 i, .int .i64 o, .string (Str t)] 78)) B v L) := Lib.hid (OwnB.below ho (below_box _))
  clear ho
  have hsz : B ≤ (w.alloc (.cells #[.int .i64 k, .int .i64 s, .int .i64 l, .int .i64 i, .int .i64 o, .string (Str t)] 78)).heap.size := by simp; omega
  go_enter Try.func147, Try.ntmps147
  go_wp2_with fail
  generalize (w.alloc (.cells #[.int .i64 k, .int .i64 s, .int .i64 l, .int .i64 i, .int .i64 o, .string (Str t)] 78)) = wx at *
  have c1 := HK.out.cell 1
  have c2 := HK.out.cell 2
  simp at c1 c2
  go_region_held3 (fun wr => wr.cell? ⟨w.heap.size, 1, none⟩ = some (.int .i64 s) ∧ wr.cell? ⟨w.heap.size, 2, none⟩ = some (.int .i64 l)) (go_keep)
    (first
      | (go_at_call_of 155 (Value.int IntKind.i64 s); refine (appendNumber_w B v L s 2 _ (by decide) (by omega) (by exact Ho.out) (by exact hsz) hs0 (by omega)).mono ?_; rintro e w1 ⟨v1, rfl, ho1, hb1, hk1⟩; have hk : Blk w1 w.heap.size 78 #[.int .i64 k, .int .i64 s, .int .i64 l, .int .i64 i, .int .i64 o, .string (Str t)] := hk1 _ _ _ (by decide) (by exact HK.out); have d1 := hk.cell 1; have d2 := hk.cell 2; simp at d1 d2; have Ho1 := Lib.hid ho1; have Hb1 := Lib.hid hb1; have HK1 := Lib.hid hk; clear ho1 hb1 hk1 hk)
      | (go_at_call_of 155 (Value.int IntKind.i64 l); refine (appendNumber_w B v1 (L ++ bytesN 2 s.toNat) l 2 _ (by decide) (by rw [List.length_append, bytesN_len]; omega) (by exact Ho1.out) (by have := Hb1.out.size; exact Nat.le_trans hsz this) hl0 (by omega)).mono ?_; rintro e w2 ⟨v2, rfl, ho2, hb2, hk2⟩; have hk : Blk w2 w.heap.size 78 #[.int .i64 k, .int .i64 s, .int .i64 l, .int .i64 i, .int .i64 o, .string (Str t)] := hk2 _ _ _ (by decide) (by exact HK1.out); have e1 := hk.cell 1; have e2 := hk.cell 2; simp at e1 e2; have Ho2 := Lib.hid ho2; have Hb2 := Lib.hid hb2; clear ho2 hb2 hk2 hk))
  all_goals
    go_wp2
    go_ret
    refine ⟨v2, rfl, by have h := Ho2.out; rw [List.append_assoc] at h; exact h, ?_⟩
    first
      | exact (HB1.out.drew.trans Hb1.out).trans Hb2.out
      | exact (HB1.out.trans Hb1.out).trans Hb2.out

open Lib in
set_option maxRecDepth 100000 in
set_option maxHeartbeats 400000 in
theorem k5_w (B : Nat) (v : Value) (L : Bs) (k s l i o : Int) (t : Bs) (w : World) (hL : L.length ≤ 4) (ho : OwnB w B v L) (hB : B ≤ w.heap.size) (ht : t.length ≤ 1000) :
    Calls Try.prog 151 #[v, .agg #[.int .i64 k, .int .i64 s, .int .i64 l, .int .i64 i, .int .i64 o, .string (Str t)]] w fun e w' => ∃ v', e = .returned v' ∧ OwnB w' B v' (L ++ t) ∧ Below B w w' := by
  obtain ⟨i0, hi, hz0, hz1, hz2⟩ := info_parts infoU8
  have Ho : Hid (OwnB (w.alloc (.cells #[.int .i64 k, .int .i64 s, .int .i64 l, .int .i64 i, .int .i64 o, .string (Str t)] 78)) B v L) := Lib.hid (OwnB.below ho (below_box _))
  clear ho
  go_enter Try.func151, Try.ntmps151
  go_wp2_with (at_builtin; go_loud (refine wpList_append_own_string _ rfl _ _ 22 9 rfl B 5 i0 Try.underlying22 Try.underlying9 hi hz0 hz1 hz2 _ _ _ rfl Ho.out (Str t) rfl (by rw [size_Str]; unfold maxLen; omega) (by rw [size_Str]; omega) (by simp; omega) ?_; intro v' w2 hown' hgrow _))
  have Hb2 : Hid (Below B w w2) := Lib.hid (Below.grown ((Below.refl _ _).alloc hB _) hgrow (by simp; omega) (fun q hq => (Ho.out.lt q hq).1))
  have Hown' := Lib.hid hown'
  clear hown' hgrow
  go_wp2
  go_ret
  refine ⟨v', rfl, ?_, Hb2.out⟩
  have h := Hown'.out
  unfold OwnB
  rw [List.length_append, List.map_append]
  rw [size_Str] at h
  exact h

set_option maxHeartbeats 400000 in
theorem k8_w (B : Nat) (v : Value) (L : Bs) (k s l i o : Int) (t : Bs) (w : World) (hL : L.length ≤ 4) (ho : OwnB w B v L) (hB : B ≤ w.heap.size) (hi0 : 0 ≤ i) (hi : i < 4294967296) :
    Calls Try.prog 154 #[v, .agg #[.int .i64 k, .int .i64 s, .int .i64 l, .int .i64 i, .int .i64 o, .string (Str t)]] w fun e w' => ∃ v', e = .returned v' ∧ OwnB w' B v' (L ++ bytesN 4 i.toNat) ∧ Below B w w' := by
  have HB1 : Hid (Below B w (w.alloc (.cells #[.int .i64 k, .int .i64 s, .int .i64 l, .int .i64 i, .int .i64 o, .string (Str t)] 78))) := Lib.hid ((Below.refl _ _).alloc hB _)
  have Ho : Hid (OwnB (w.alloc (.cells #[.int .i64 k, .int .i64 s, .int .i64 l, .int .i64 i, .int .i64 o, .string (Str t)] 78)) B v L) := Lib.hid (OwnB.below ho (below_box _))
  clear ho
  go_enter Try.func154, Try.ntmps154
  go_wp2_with (go_at_call 155; refine (appendNumber_w B v L i 4 _ (by decide) (by omega) Ho.out (by simp; omega) hi0 hi).mono ?_; rintro e w1 ⟨v1, rfl, ho1, hb1, hk1⟩; have Ho1 := Lib.hid ho1; have Hb1 := Lib.hid hb1; clear ho1 hb1 hk1)
  go_ret
  exact ⟨v1, rfl, Ho1.out, HB1.out.trans Hb1.out⟩

set_option maxHeartbeats 400000 in
theorem k3_w (t : Bs) (w : World) (ht : t.length ≤ maxLen) :
    Calls Try.prog 145 #[.string (Str t)] w fun e w' => e = .returned (.tuple #[.agg #[.int .i64 0, .int .i64 0, .int .i64 0, .int .i64 0, .int .i64 0, .string (Str [])], .bool t.isEmpty]) ∧ Grown w w' := by
  unfold maxLen at ht
  go_enter Try.func145, Try.ntmps145
  go_wp2_with fail
  exact bodyPost_ret (v := .tuple #[.agg #[.int .i64 0, .int .i64 0, .int .i64 0, .int .i64 0, .int .i64 0, .string (Str [])], .bool t.isEmpty]) (by simp [results, Try.results145, go_sem]; rfl) rfl ⟨rfl, grown_box _⟩

set_option maxHeartbeats 400000 in
theorem k6_w (t : Bs) (w : World) (ht : t.length ≤ maxLen) :
    Calls Try.prog 152 #[.string (Str t)] w fun e w' => e = .returned (.tuple #[.agg #[.int .i64 0, .int .i64 0, .int .i64 0, .int .i64 0, .int .i64 0, .string (Str t)], .bool true]) ∧ Grown w w' := by
  unfold maxLen at ht
  go_enter Try.func152, Try.ntmps152
  go_wp2_with fail
  exact bodyPost_ret (v := .tuple #[.agg #[.int .i64 0, .int .i64 0, .int .i64 0, .int .i64 0, .int .i64 0, .string (Str t)], .bool true]) (by simp [results, Try.results152, go_sem]) rfl ⟨rfl, grown_box _⟩

set_option maxHeartbeats 400000 in
theorem fileFields_no (t : Bs) (w : World) (ht : t.length ≤ maxLen) (h4 : ¬ t.length = 4) :
    Calls Try.prog 148 #[.string (Str t)] w fun e w' => e = .returned (.tuple #[.agg #[.int .i64 0, .int .i64 0, .int .i64 0, .int .i64 0, .int .i64 0, .string (Str [])], .bool false]) ∧ Grown w w' := by
  unfold maxLen at ht
  have h4' : ((t.length : Int) != 4) = true := by simp; omega
  go_enter Try.func148, Try.ntmps148
  go_wp2_with fail
  exact bodyPost_ret (v := .tuple #[.agg #[.int .i64 0, .int .i64 0, .int .i64 0, .int .i64 0, .int .i64 0, .string (Str [])], .bool false]) (by simp [results, Try.results148, go_sem]; rfl) rfl ⟨rfl, grown_box _⟩

theorem number_q (t : Bs) (ht : t.length ≤ 4) (w : World) : Calls Try.prog 170 #[.string (Str t)] w fun e w' => e = .returned (.int .i64 (numF t)) ∧ w' = w :=
  (number_w (Str t) w (by rw [size_Str]; exact ht)).mono fun e w' ⟨he, hw⟩ => ⟨by rw [he, toList_Str], hw.symm⟩

theorem four_of {t : Bs} (h : t.length = 4) : ∃ a b c d, t = [a, b, c, d] := by
  match t, h with
  | [a, b, c, d], _ => exact ⟨a, b, c, d, rfl⟩

set_option maxRecDepth 100000 in
set_option maxHeartbeats 1000000 in
theorem fileFields_yes (t : Bs) (w : World) (h4 : t.length = 4) :
    Calls Try.prog 148 #[.string (Str t)] w fun e w' => e = .returned (.tuple #[.agg #[.int .i64 0, .int .i64 (numF (t.take 2)), .int .i64 (numF (t.drop 2)), .int .i64 0, .int .i64 0, .string (Str [])], .bool true]) ∧ Grown w w' := by
  obtain ⟨x, y, p, q, rfl⟩ := four_of h4
  have n1 := number_q [x, y] (by simp)
  have n2 := number_q [p, q] (by simp)
  show Calls Try.prog 148 #[.string (Str [x, y, p, q])] w fun e w' => e = .returned (.tuple #[.agg #[.int .i64 0, .int .i64 (numF [x, y]), .int .i64 (numF [p, q]), .int .i64 0, .int .i64 0, .string (Str [])], .bool true]) ∧ Grown w w'
  have N1 := Lib.hid n1
  have N2 := Lib.hid n2
  have e2 : (Str [x, y, p, q]).extract 2 4 = Str [p, q] := extract_StrN [x, y, p, q] 2
  clear n1 n2 h4
  generalize numF [x, y] = a at *
  generalize numF [p, q] = b at *
  go_enter Try.func148, Try.ntmps148
  go_wp2_with fail
  go_region_with (first
    | (go_at_call_of 170 (Value.string (Str [x, y])); refine (N1.out _).mono ?_; rintro e w' ⟨rfl, rfl⟩)
    | (go_at_call_of 170 (Value.string (Str [p, q])); refine (N2.out _).mono ?_; rintro e w' ⟨rfl, rfl⟩))
  all_goals
    go_wp2
    exact bodyPost_ret (v := .tuple #[.agg #[.int .i64 0, .int .i64 a, .int .i64 b, .int .i64 0, .int .i64 0, .string (Str [])], .bool true]) (by simp [results, Try.results148, go_sem]; rfl) rfl ⟨rfl, (grown_box _).draw⟩

set_option maxHeartbeats 400000 in
theorem linkFields_no (t : Bs) (w : World) (ht : t.length ≤ maxLen) (h4 : ¬ t.length = 4) :
    Calls Try.prog 156 #[.string (Str t)] w fun e w' => e = .returned (.tuple #[.agg #[.int .i64 0, .int .i64 0, .int .i64 0, .int .i64 0, .int .i64 0, .string (Str [])], .bool false]) ∧ Grown w w' := by
  unfold maxLen at ht
  have h4' : ((t.length : Int) != 4) = true := by simp; omega
  go_enter Try.func156, Try.ntmps156
  go_wp2_with fail
  exact bodyPost_ret (v := .tuple #[.agg #[.int .i64 0, .int .i64 0, .int .i64 0, .int .i64 0, .int .i64 0, .string (Str [])], .bool false]) (by simp [results, Try.results156, go_sem]; rfl) rfl ⟨rfl, grown_box _⟩

set_option maxHeartbeats 400000 in
theorem linkFields_yes (t : Bs) (w : World) (h4 : t.length = 4) :
    Calls Try.prog 156 #[.string (Str t)] w fun e w' => e = .returned (.tuple #[.agg #[.int .i64 0, .int .i64 0, .int .i64 0, .int .i64 (numF t), .int .i64 0, .string (Str [])], .bool true]) ∧ Grown w w' := by
  have n1 := number_q t (by omega)
  have N1 := Lib.hid n1
  have h4' : ((t.length : Int) != 4) = false := by rw [h4]; rfl
  clear n1 h4
  generalize numF t = a at *
  go_enter Try.func156, Try.ntmps156
  go_wp2_with (go_at_call 170; refine (N1.out _).mono ?_; rintro e w' ⟨rfl, rfl⟩)
  exact bodyPost_ret (v := .tuple #[.agg #[.int .i64 0, .int .i64 0, .int .i64 0, .int .i64 a, .int .i64 0, .string (Str [])], .bool true]) (by simp [results, Try.results156, go_sem]; rfl) rfl ⟨rfl, grown_box _⟩

end Go.Proofs.Yticlomakmcjcfaa

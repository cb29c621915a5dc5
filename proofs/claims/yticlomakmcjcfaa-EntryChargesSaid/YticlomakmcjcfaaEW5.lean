/-
  Walks: Valid of package entry, whatever the kind; Encode.
-/
import Derived.Test.YticlomakmcjcfaaEW4
namespace Go.Proofs.Yticlomakmcjcfaa
open Go.RowKit Go.Sort
set_option maxRecDepth 1000000
set_option linter.unusedVariables false

set_option maxRecDepth 100000 in
set_option maxHeartbeats 1000000 in
theorem valid0_w (k s l i o : Int) (t : Bs) (w : World) (hk : k < 1 ∨ 5 ≤ k) :
    Calls Try.prog 66 #[.agg #[.int .i64 k, .int .i64 s, .int .i64 l, .int .i64 i, .int .i64 o, .string (Str t)]] w fun e w' => e = .returned (.bool false) ∧ Grown w w' := by
  have mixed := mixedA
  have hh : ∀ wx, Calls Try.prog 117 #[.int .i64 k] wx fun e w' => e = .returned (.tuple #[.agg #[.nilFunc, .nilFunc, .nilFunc], .bool false]) ∧ Grown wx w' := fun wx => by
    rcases hk with h | h
    · exact kindOf_lo k wx h
    · exact kindOf_hi k wx h
  have Hh := Lib.hid hh
  have S0 := Blk.new w 78 #[.int .i64 k, .int .i64 s, .int .i64 l, .int .i64 i, .int .i64 o, .string (Str t)]
  clear hh hk
  go_enter Try.func66, Try.ntmps66
  go_wp2_with (go_at_call 117; refine (Hh.out _).mono ?_; rintro e w1 ⟨rfl, hg1⟩; have c1 := (Blk.below S0 (hg1.below (Nat.le_refl _)) (by simp)).c0 0 _ rfl)
  have HG : Hid (Grown w (w1.alloc (.cells #[.nilFunc, .nilFunc, .nilFunc] 143))) := Lib.hid (((grown_box _).trans hg1).alloc _)
  clear S0 hg1 c1
  generalize w1.alloc (.cells #[.nilFunc, .nilFunc, .nilFunc] 143) = wx at *
  go_quiet_grown (fail)
  go_wp2
  go_ret
  exact ⟨ret_bool (by rfl), HG.out.trans ⟨_, _, rfl⟩⟩

theorem entQ_dir (s l i : Int) (t : Bs) : entQ 0 s l i 0 t 0 0 0 0 0 [] = dirB ⟨1, s, l, i, 0, t⟩ := by
  unfold entQ dirB; rw [Bool.eq_iff_iff]; simp [and_assoc]
theorem entQ_file (s l i : Int) (t : Bs) : (entQ 0 s l i 0 t 0 s l 0 0 [] && inB s 60000 && inB l 1000) = fileB ⟨2, s, l, i, 0, t⟩ := by
  unfold entQ fileB; rw [Bool.eq_iff_iff]; simp; constructor <;> (intro h; simp_all)
theorem entQ_sym (s l i : Int) (t : Bs) : (entQ 0 s l i 0 t 0 0 0 0 0 t && textB t) = symB ⟨3, s, l, i, 0, t⟩ := by
  unfold entQ symB; rw [Bool.eq_iff_iff]; simp [and_assoc]
theorem entQ_link (s l i : Int) (t : Bs) : (entQ 0 s l i 0 t 0 0 0 i 0 [] && inB i 2147483647) = linkB ⟨4, s, l, i, 0, t⟩ := by
  unfold entQ linkB; rw [Bool.eq_iff_iff]; simp [and_assoc]

/-- An entry as a value. -/
def entV (k s l i o : Int) (t : Bs) : Value := .agg #[.int .i64 k, .int .i64 s, .int .i64 l, .int .i64 i, .int .i64 o, .string (Str t)]

theorem evalid_w (k s l i o : Int) (t : Bs) (w : World) (ht : t.length ≤ maxLen) :
    Calls Try.prog 66 #[.agg #[.int .i64 k, .int .i64 s, .int .i64 l, .int .i64 i, .int .i64 o, .string (Str t)]] w fun e w' => e = .returned (.bool (validE ⟨k, s, l, i, o, t⟩)) ∧ Grown w w' := by
  by_cases h1 : k = 1
  · subst h1
    have h := valid1_w s l i o t w ht
    rw [entQ_dir] at h
    exact h
  · by_cases h2 : k = 2
    · subst h2
      have h := valid2_w s l i o t w ht
      rw [entQ_file] at h
      exact h
    · by_cases h3 : k = 3
      · subst h3
        have h := valid3_w s l i o t w ht
        rw [entQ_sym] at h
        exact h
      · by_cases h4 : k = 4
        · subst h4
          have h := valid4_w s l i o t w ht
          rw [entQ_link] at h
          exact h
        · have h := valid0_w k s l i o t w (by omega)
          have e : validE ⟨k, s, l, i, o, t⟩ = false := by unfold validE fieldsB; simp [h1, h2, h3, h4]
          rw [e]
          exact h

theorem ownB_head (W : World) (a b : UInt8) (B : Nat) (hB : B ≤ W.heap.size) : OwnB (W.alloc (.cells #[.int .u8 a.toNat, .int .u8 b.toNat] 5)) B (.slice (some ⟨W.heap.size, 0, none⟩) 2 2) [a, b] :=
  ⟨by simp, .inr ⟨W.heap.size, 2, #[.int .u8 a.toNat, .int .u8 b.toNat], rfl, hB, Blk.new _ _ _, by simp, by unfold maxLen; omega, by simp, by simp⟩⟩

theorem conv_own (w : World) (B : Nat) (v : Value) (l : Bs) (ho : OwnB w B v l) (hl : l ≠ []) : (convert 22 9 v).run Try.prog w = .ok (.string (Str l)) w := by
  rcases ho.2 with ⟨_, h0⟩ | ⟨g, cap, cur, rfl, _, hg, hle, _, hsz, htk⟩
  · exact absurd (List.length_eq_zero_iff.1 h0) hl
  simp only [Nat.mul_one] at hsz htk
  have hc : ∀ i (h : i < l.length), w.cell? ⟨g, 0 + i, none⟩ = some (.int .u8 (l[i].toNat)) := fun i hi => by
    unfold World.cell?
    rw [hg]
    show cur[0 + i]? = _
    have h1 : (cur.toList.take l.length)[i]? = (l.map fun c => Value.int .u8 c.toNat)[i]? := by rw [htk]
    rw [List.getElem?_take, if_pos hi, Array.getElem?_toList] at h1
    rw [Nat.zero_add, h1]; simp [hi]
  have h := run_convert_bytes_arg (P := Try.prog) w 22 5 Try.underlying22 Try.underlying5 g 0 l.length cap (l.map fun c => (c.toNat : Int)) (by simp) (fun i hi => by
    have hi' : i < l.length := by simpa using hi
    rw [hc i hi']; simp [hi']) 9 Try.underlying9
  rw [h]
  have e : strOfNums (l.map fun c => (c.toNat : Int)) = Str l := by
    show Str ((l.map fun c => (c.toNat : Int)).map fun x => UInt8.ofNat x.toNat) = Str l
    rw [List.map_map]
    congr 1
    conv => rhs; rw [← List.map_id l]
    apply List.map_congr_left
    intro c _
    simp
  rw [e]

set_option maxRecDepth 100000 in
set_option maxHeartbeats 1000000 in
theorem encode1_w (s l i : Int) (b : UInt8) (t : Bs) (w : World) (ht : t.length ≤ maxLen) (hv : validE ⟨1, s, l, i, b.toNat, t⟩ = true)  :
    Calls Try.prog 62 #[.agg #[.int .i64 1, .int .i64 s, .int .i64 l, .int .i64 i, .int .i64 b.toNat, .string (Str t)]] w fun e w' => e = .returned (.tuple #[.string (Str (valueE ⟨1, s, l, i, b.toNat, t⟩)), .int .i64 0]) ∧ Below w.heap.size w w' := by
  have hva := fun wx => evalid_w 1 s l i b.toNat t wx ht
  rw [hv] at hva
  have S0 := Lib.hid (Blk.new w 78 #[.int .i64 1, .int .i64 s, .int .i64 l, .int .i64 i, .int .i64 b.toNat, .string (Str t)])
  have HV := Lib.hid hva
  have hb1 : (b.toNat : Int) ≤ 255 := by have := b.toNat_lt; omega
  have hb0 : 0 ≤ (b.toNat : Int) := by omega
  clear hva hv ht
  go_enter Try.func62, Try.ntmps62
  go_wp2_with (first
    | (go_at_call 117; refine (kindOf1_w _).mono ?_; rintro e w1 ⟨rfl, hg1⟩; have S1 := (Blk.below S0.out (hg1.below (Nat.le_refl _)) (by simp)); have c0 := S1.c0 0 _ rfl; have c1 := S1.c0 1 _ rfl; have c2 := S1.c0 2 _ rfl; have c3 := S1.c0 3 _ rfl; have c4 := S1.c0 4 _ rfl; have c5 := S1.c0 5 _ rfl; simp at c0 c1 c2 c3 c4 c5; have hlt1 := S1.lt; have HS1 := Lib.hid S1; have Hg1 := Lib.hid hg1; clear S1 hg1)
    | (go_at_call 66; refine (HV.out _).mono ?_; rintro e w2 ⟨rfl, hg2⟩; have S2 := Blk.below (HS1.out.alloc (.cells #[.func (Fn.func 143) #[] #[], .func (Fn.func 144) #[] #[], .func (Fn.func 145) #[] #[]] 143)) (hg2.below (Nat.le_refl _)) (HS1.out.alloc _).lt; have K2 := Blk.below (Blk.new w1 143 #[.func (Fn.func 143) #[] #[], .func (Fn.func 144) #[] #[], .func (Fn.func 145) #[] #[]]) (hg2.below (Nat.le_refl _)) (Blk.new w1 143 #[.func (Fn.func 143) #[] #[], .func (Fn.func 144) #[] #[], .func (Fn.func 145) #[] #[]]).lt; have d0 := S2.c0 0 _ rfl; have d1 := S2.c0 1 _ rfl; have d2 := S2.c0 2 _ rfl; have d3 := S2.c0 3 _ rfl; have d4 := S2.c0 4 _ rfl; have d5 := S2.c0 5 _ rfl; have e0 := K2.c0 0 _ rfl; have e1 := K2.c0 1 _ rfl; have e2 := K2.c0 2 _ rfl; simp at d0 d1 d2 d3 d4 d5 e0 e1 e2; have hlt2 := S2.lt; have hlt3 := K2.lt; have HS2 := Lib.hid S2; have HK2 := Lib.hid K2; have Hg2 := Lib.hid hg2; clear S2 K2 hg2))
  have Ho : Hid (OwnB (w2.alloc (.cells #[.int .u8 1, .int .u8 b.toNat] 5)) w.heap.size (.slice (some ⟨w2.heap.size, 0, none⟩) 2 2) [1, b]) := Lib.hid (ownB_head w2 1 b w.heap.size (by omega))
  refine (k2_w (.slice (some ⟨w2.heap.size, 0, none⟩) 2 2) 1 s l i b.toNat t _).mono ?_
  rintro e w3 ⟨rfl, hg3⟩
  have Ho3 : Hid (OwnB w3 w.heap.size (.slice (some ⟨w2.heap.size, 0, none⟩) 2 2) ([1, b] ++ [])) := Lib.hid (Ho.out.below (hg3.below (Nat.le_refl _)))
  have Hb3 : Hid (Below w.heap.size (w2.alloc (.cells #[.int .u8 1, .int .u8 b.toNat] 5)) w3) := Lib.hid (hg3.below (by simp; omega))
  clear hg3
  obtain ⟨v3, hv3⟩ : ∃ v, v = Value.slice (some ⟨w2.heap.size, 0, none⟩) 2 2 := ⟨_, rfl⟩
  rw [← hv3] at Ho3 ⊢
  clear hv3
  have Hcv := conv_own w3 w.heap.size v3 _ Ho3.out (by simp)
  go_wp2
  go_ret2
  refine ⟨?_, ?_⟩
  · have hval : valueE ⟨1, s, l, i, b.toNat, t⟩ = [1, b] ++ [] := by simp [valueE, tailE]
    rw [hval]
    first
      | rfl
      | (simp; done)
  · refine Below.trans ((Below.refl _ _).alloc (Nat.le_refl _) (.cells #[.int .i64 1, .int .i64 s, .int .i64 l, .int .i64 i, .int .i64 b.toNat, .string (Str t)] 78)) ?_
    refine Below.trans (Hg1.out.below (by simp)) ?_
    refine Below.trans ((Below.refl _ _).alloc (by omega) (.cells #[.func (Fn.func 143) #[] #[], .func (Fn.func 144) #[] #[], .func (Fn.func 145) #[] #[]] 143)) ?_
    refine Below.trans (Hg2.out.below (by simp; omega)) ?_
    refine Below.trans ((Below.refl _ _).alloc (by omega) (.cells #[.int .u8 1, .int .u8 b.toNat] 5)) ?_
    exact Hb3.out

set_option maxRecDepth 100000 in
set_option maxHeartbeats 1000000 in
theorem encode2_w (s l i : Int) (b : UInt8) (t : Bs) (w : World) (ht : t.length ≤ maxLen) (hv : validE ⟨2, s, l, i, b.toNat, t⟩ = true) (hr1 : 0 ≤ s) (hr2 : s < 65536) (hr3 : 0 ≤ l) (hr4 : l < 65536) :
    Calls Try.prog 62 #[.agg #[.int .i64 2, .int .i64 s, .int .i64 l, .int .i64 i, .int .i64 b.toNat, .string (Str t)]] w fun e w' => e = .returned (.tuple #[.string (Str (valueE ⟨2, s, l, i, b.toNat, t⟩)), .int .i64 0]) ∧ Below w.heap.size w w' := by
  have hva := fun wx => evalid_w 2 s l i b.toNat t wx ht
  rw [hv] at hva
  have S0 := Lib.hid (Blk.new w 78 #[.int .i64 2, .int .i64 s, .int .i64 l, .int .i64 i, .int .i64 b.toNat, .string (Str t)])
  have HV := Lib.hid hva
  have hb1 : (b.toNat : Int) ≤ 255 := by have := b.toNat_lt; omega
  have hb0 : 0 ≤ (b.toNat : Int) := by omega
  clear hva hv ht
  go_enter Try.func62, Try.ntmps62
  go_wp2_with (first
    | (go_at_call 117; refine (kindOf2_w _).mono ?_; rintro e w1 ⟨rfl, hg1⟩; have S1 := (Blk.below S0.out (hg1.below (Nat.le_refl _)) (by simp)); have c0 := S1.c0 0 _ rfl; have c1 := S1.c0 1 _ rfl; have c2 := S1.c0 2 _ rfl; have c3 := S1.c0 3 _ rfl; have c4 := S1.c0 4 _ rfl; have c5 := S1.c0 5 _ rfl; simp at c0 c1 c2 c3 c4 c5; have hlt1 := S1.lt; have HS1 := Lib.hid S1; have Hg1 := Lib.hid hg1; clear S1 hg1)
    | (go_at_call 66; refine (HV.out _).mono ?_; rintro e w2 ⟨rfl, hg2⟩; have S2 := Blk.below (HS1.out.alloc (.cells #[.func (Fn.func 146) #[] #[], .func (Fn.func 147) #[] #[], .func (Fn.func 148) #[] #[]] 143)) (hg2.below (Nat.le_refl _)) (HS1.out.alloc _).lt; have K2 := Blk.below (Blk.new w1 143 #[.func (Fn.func 146) #[] #[], .func (Fn.func 147) #[] #[], .func (Fn.func 148) #[] #[]]) (hg2.below (Nat.le_refl _)) (Blk.new w1 143 #[.func (Fn.func 146) #[] #[], .func (Fn.func 147) #[] #[], .func (Fn.func 148) #[] #[]]).lt; have d0 := S2.c0 0 _ rfl; have d1 := S2.c0 1 _ rfl; have d2 := S2.c0 2 _ rfl; have d3 := S2.c0 3 _ rfl; have d4 := S2.c0 4 _ rfl; have d5 := S2.c0 5 _ rfl; have e0 := K2.c0 0 _ rfl; have e1 := K2.c0 1 _ rfl; have e2 := K2.c0 2 _ rfl; simp at d0 d1 d2 d3 d4 d5 e0 e1 e2; have hlt2 := S2.lt; have hlt3 := K2.lt; have HS2 := Lib.hid S2; have HK2 := Lib.hid K2; have Hg2 := Lib.hid hg2; clear S2 K2 hg2))
  have Ho : Hid (OwnB (w2.alloc (.cells #[.int .u8 2, .int .u8 b.toNat] 5)) w.heap.size (.slice (some ⟨w2.heap.size, 0, none⟩) 2 2) [2, b]) := Lib.hid (ownB_head w2 2 b w.heap.size (by omega))
  have hlt4 : w.heap.size ≤ (w2.alloc (.cells #[.int .u8 2, .int .u8 b.toNat] 5)).heap.size := by simp; omega
  refine (fileBytes_w w.heap.size (.slice (some ⟨w2.heap.size, 0, none⟩) 2 2) [2, b] 2 s l i b.toNat t _ (by simp) Ho.out hlt4 hr1 hr2 hr3 hr4).mono ?_
  rintro e w3 ⟨v3, rfl, ho3, hb3⟩
  have Ho3 := Lib.hid ho3
  have Hb3 := Lib.hid hb3
  clear ho3 hb3
  have Hcv := conv_own w3 w.heap.size v3 _ Ho3.out (by simp)
  go_wp2
  go_ret2
  refine ⟨?_, ?_⟩
  · have hval : valueE ⟨2, s, l, i, b.toNat, t⟩ = [2, b] ++ (bytesN 2 s.toNat ++ bytesN 2 l.toNat) := by simp [valueE, tailE]
    rw [hval]
    first
      | rfl
      | (simp; done)
  · refine Below.trans ((Below.refl _ _).alloc (Nat.le_refl _) (.cells #[.int .i64 2, .int .i64 s, .int .i64 l, .int .i64 i, .int .i64 b.toNat, .string (Str t)] 78)) ?_
    refine Below.trans (Hg1.out.below (by simp)) ?_
    refine Below.trans ((Below.refl _ _).alloc (by omega) (.cells #[.func (Fn.func 146) #[] #[], .func (Fn.func 147) #[] #[], .func (Fn.func 148) #[] #[]] 143)) ?_
    refine Below.trans (Hg2.out.below (by simp; omega)) ?_
    refine Below.trans ((Below.refl _ _).alloc (by omega) (.cells #[.int .u8 2, .int .u8 b.toNat] 5)) ?_
    exact Hb3.out

set_option maxRecDepth 100000 in
set_option maxHeartbeats 1000000 in
theorem encode3_w (s l i : Int) (b : UInt8) (t : Bs) (w : World) (ht : t.length ≤ maxLen) (hv : validE ⟨3, s, l, i, b.toNat, t⟩ = true) (hr1 : t.length ≤ 1000) :
    Calls Try.prog 62 #[.agg #[.int .i64 3, .int .i64 s, .int .i64 l, .int .i64 i, .int .i64 b.toNat, .string (Str t)]] w fun e w' => e = .returned (.tuple #[.string (Str (valueE ⟨3, s, l, i, b.toNat, t⟩)), .int .i64 0]) ∧ Below w.heap.size w w' := by
  have hva := fun wx => evalid_w 3 s l i b.toNat t wx ht
  rw [hv] at hva
  have S0 := Lib.hid (Blk.new w 78 #[.int .i64 3, .int .i64 s, .int .i64 l, .int .i64 i, .int .i64 b.toNat, .string (Str t)])
  have HV := Lib.hid hva
  have hb1 : (b.toNat : Int) ≤ 255 := by have := b.toNat_lt; omega
  have hb0 : 0 ≤ (b.toNat : Int) := by omega
  clear hva hv ht
  go_enter Try.func62, Try.ntmps62
  go_wp2_with (first
    | (go_at_call 117; refine (kindOf3_w _).mono ?_; rintro e w1 ⟨rfl, hg1⟩; have S1 := (Blk.below S0.out (hg1.below (Nat.le_refl _)) (by simp)); have c0 := S1.c0 0 _ rfl; have c1 := S1.c0 1 _ rfl; have c2 := S1.c0 2 _ rfl; have c3 := S1.c0 3 _ rfl; have c4 := S1.c0 4 _ rfl; have c5 := S1.c0 5 _ rfl; simp at c0 c1 c2 c3 c4 c5; have hlt1 := S1.lt; have HS1 := Lib.hid S1; have Hg1 := Lib.hid hg1; clear S1 hg1)
    | (go_at_call 66; refine (HV.out _).mono ?_; rintro e w2 ⟨rfl, hg2⟩; have S2 := Blk.below (HS1.out.alloc (.cells #[.func (Fn.func 149) #[] #[], .func (Fn.func 151) #[] #[], .func (Fn.func 152) #[] #[]] 143)) (hg2.below (Nat.le_refl _)) (HS1.out.alloc _).lt; have K2 := Blk.below (Blk.new w1 143 #[.func (Fn.func 149) #[] #[], .func (Fn.func 151) #[] #[], .func (Fn.func 152) #[] #[]]) (hg2.below (Nat.le_refl _)) (Blk.new w1 143 #[.func (Fn.func 149) #[] #[], .func (Fn.func 151) #[] #[], .func (Fn.func 152) #[] #[]]).lt; have d0 := S2.c0 0 _ rfl; have d1 := S2.c0 1 _ rfl; have d2 := S2.c0 2 _ rfl; have d3 := S2.c0 3 _ rfl; have d4 := S2.c0 4 _ rfl; have d5 := S2.c0 5 _ rfl; have e0 := K2.c0 0 _ rfl; have e1 := K2.c0 1 _ rfl; have e2 := K2.c0 2 _ rfl; simp at d0 d1 d2 d3 d4 d5 e0 e1 e2; have hlt2 := S2.lt; have hlt3 := K2.lt; have HS2 := Lib.hid S2; have HK2 := Lib.hid K2; have Hg2 := Lib.hid hg2; clear S2 K2 hg2))
  have Ho : Hid (OwnB (w2.alloc (.cells #[.int .u8 3, .int .u8 b.toNat] 5)) w.heap.size (.slice (some ⟨w2.heap.size, 0, none⟩) 2 2) [3, b]) := Lib.hid (ownB_head w2 3 b w.heap.size (by omega))
  have hlt4 : w.heap.size ≤ (w2.alloc (.cells #[.int .u8 3, .int .u8 b.toNat] 5)).heap.size := by simp; omega
  refine (k5_w w.heap.size (.slice (some ⟨w2.heap.size, 0, none⟩) 2 2) [3, b] 3 s l i b.toNat t _ (by simp) Ho.out hlt4 hr1).mono ?_
  rintro e w3 ⟨v3, rfl, ho3, hb3⟩
  have Ho3 := Lib.hid ho3
  have Hb3 := Lib.hid hb3
  clear ho3 hb3
  have Hcv := conv_own w3 w.heap.size v3 _ Ho3.out (by simp)
  go_wp2
  go_ret2
  refine ⟨?_, ?_⟩
  · have hval : valueE ⟨3, s, l, i, b.toNat, t⟩ = [3, b] ++ t := by simp [valueE, tailE]
    rw [hval]
    first
      | rfl
      | (simp; done)
  · refine Below.trans ((Below.refl _ _).alloc (Nat.le_refl _) (.cells #[.int .i64 3, .int .i64 s, .int .i64 l, .int .i64 i, .int .i64 b.toNat, .string (Str t)] 78)) ?_
    refine Below.trans (Hg1.out.below (by simp)) ?_
    refine Below.trans ((Below.refl _ _).alloc (by omega) (.cells #[.func (Fn.func 149) #[] #[], .func (Fn.func 151) #[] #[], .func (Fn.func 152) #[] #[]] 143)) ?_
    refine Below.trans (Hg2.out.below (by simp; omega)) ?_
    refine Below.trans ((Below.refl _ _).alloc (by omega) (.cells #[.int .u8 3, .int .u8 b.toNat] 5)) ?_
    exact Hb3.out

set_option maxRecDepth 100000 in
set_option maxHeartbeats 1000000 in
theorem encode4_w (s l i : Int) (b : UInt8) (t : Bs) (w : World) (ht : t.length ≤ maxLen) (hv : validE ⟨4, s, l, i, b.toNat, t⟩ = true) (hr1 : 0 ≤ i) (hr2 : i < 4294967296) :
    Calls Try.prog 62 #[.agg #[.int .i64 4, .int .i64 s, .int .i64 l, .int .i64 i, .int .i64 b.toNat, .string (Str t)]] w fun e w' => e = .returned (.tuple #[.string (Str (valueE ⟨4, s, l, i, b.toNat, t⟩)), .int .i64 0]) ∧ Below w.heap.size w w' := by
  have hva := fun wx => evalid_w 4 s l i b.toNat t wx ht
  rw [hv] at hva
  have S0 := Lib.hid (Blk.new w 78 #[.int .i64 4, .int .i64 s, .int .i64 l, .int .i64 i, .int .i64 b.toNat, .string (Str t)])
  have HV := Lib.hid hva
  have hb1 : (b.toNat : Int) ≤ 255 := by have := b.toNat_lt; omega
  have hb0 : 0 ≤ (b.toNat : Int) := by omega
  clear hva hv ht
  go_enter Try.func62, Try.ntmps62
  go_wp2_with (first
    | (go_at_call 117; refine (kindOf4_w _).mono ?_; rintro e w1 ⟨rfl, hg1⟩; have S1 := (Blk.below S0.out (hg1.below (Nat.le_refl _)) (by simp)); have c0 := S1.c0 0 _ rfl; have c1 := S1.c0 1 _ rfl; have c2 := S1.c0 2 _ rfl; have c3 := S1.c0 3 _ rfl; have c4 := S1.c0 4 _ rfl; have c5 := S1.c0 5 _ rfl; simp at c0 c1 c2 c3 c4 c5; have hlt1 := S1.lt; have HS1 := Lib.hid S1; have Hg1 := Lib.hid hg1; clear S1 hg1)
    | (go_at_call 66; refine (HV.out _).mono ?_; rintro e w2 ⟨rfl, hg2⟩; have S2 := Blk.below (HS1.out.alloc (.cells #[.func (Fn.func 153) #[] #[], .func (Fn.func 154) #[] #[], .func (Fn.func 156) #[] #[]] 143)) (hg2.below (Nat.le_refl _)) (HS1.out.alloc _).lt; have K2 := Blk.below (Blk.new w1 143 #[.func (Fn.func 153) #[] #[], .func (Fn.func 154) #[] #[], .func (Fn.func 156) #[] #[]]) (hg2.below (Nat.le_refl _)) (Blk.new w1 143 #[.func (Fn.func 153) #[] #[], .func (Fn.func 154) #[] #[], .func (Fn.func 156) #[] #[]]).lt; have d0 := S2.c0 0 _ rfl; have d1 := S2.c0 1 _ rfl; have d2 := S2.c0 2 _ rfl; have d3 := S2.c0 3 _ rfl; have d4 := S2.c0 4 _ rfl; have d5 := S2.c0 5 _ rfl; have e0 := K2.c0 0 _ rfl; have e1 := K2.c0 1 _ rfl; have e2 := K2.c0 2 _ rfl; simp at d0 d1 d2 d3 d4 d5 e0 e1 e2; have hlt2 := S2.lt; have hlt3 := K2.lt; have HS2 := Lib.hid S2; have HK2 := Lib.hid K2; have Hg2 := Lib.hid hg2; clear S2 K2 hg2))
  have Ho : Hid (OwnB (w2.alloc (.cells #[.int .u8 4, .int .u8 b.toNat] 5)) w.heap.size (.slice (some ⟨w2.heap.size, 0, none⟩) 2 2) [4, b]) := Lib.hid (ownB_head w2 4 b w.heap.size (by omega))
  have hlt4 : w.heap.size ≤ (w2.alloc (.cells #[.int .u8 4, .int .u8 b.toNat] 5)).heap.size := by simp; omega
  refine (k8_w w.heap.size (.slice (some ⟨w2.heap.size, 0, none⟩) 2 2) [4, b] 4 s l i b.toNat t _ (by simp) Ho.out hlt4 hr1 hr2).mono ?_
  rintro e w3 ⟨v3, rfl, ho3, hb3⟩
  have Ho3 := Lib.hid ho3
  have Hb3 := Lib.hid hb3
  clear ho3 hb3
  have Hcv := conv_own w3 w.heap.size v3 _ Ho3.out (by simp)
  go_wp2
  go_ret2
  refine ⟨?_, ?_⟩
  · have hval : valueE ⟨4, s, l, i, b.toNat, t⟩ = [4, b] ++ bytesN 4 i.toNat := by simp [valueE, tailE]
    rw [hval]
    first
      | rfl
      | (simp; done)
  · refine Below.trans ((Below.refl _ _).alloc (Nat.le_refl _) (.cells #[.int .i64 4, .int .i64 s, .int .i64 l, .int .i64 i, .int .i64 b.toNat, .string (Str t)] 78)) ?_
    refine Below.trans (Hg1.out.below (by simp)) ?_
    refine Below.trans ((Below.refl _ _).alloc (by omega) (.cells #[.func (Fn.func 153) #[] #[], .func (Fn.func 154) #[] #[], .func (Fn.func 156) #[] #[]] 143)) ?_
    refine Below.trans (Hg2.out.below (by simp; omega)) ?_
    refine Below.trans ((Below.refl _ _).alloc (by omega) (.cells #[.int .u8 4, .int .u8 b.toNat] 5)) ?_
    exact Hb3.out

end Go.Proofs.Yticlomakmcjcfaa

/-
  Walks: Encode of what is not valid; Decode.
-/
import Derived.Test.YticlomakmcjcfaaEW5
namespace Go.Proofs.Yticlomakmcjcfaa
open Go.RowKit Go.Sort
set_option linter.unusedVariables false

set_option maxRecDepth 100000 in
set_option maxHeartbeats 1000000 in
theorem encode1no_w (s l i o : Int) (t : Bs) (w : World) (ht : t.length ≤ maxLen) (hv : validE ⟨1, s, l, i, o, t⟩ = false) :
    Calls Try.prog 62 #[.agg #[.int .i64 1, .int .i64 s, .int .i64 l, .int .i64 i, .int .i64 o, .string (Str t)]] w fun e w' => e = .returned (.tuple #[.string (Str []), .int .i64 30]) ∧ Below w.heap.size w w' := by
  have hva := fun wx => evalid_w 1 s l i o t wx ht
  rw [hv] at hva
  have S0 := Lib.hid (Blk.new w 78 #[.int .i64 1, .int .i64 s, .int .i64 l, .int .i64 i, .int .i64 o, .string (Str t)])
  have HV := Lib.hid hva
  clear hva hv ht
  go_enter Try.func62, Try.ntmps62
  go_wp2_with (first
    | (go_at_call 117; refine (kindOf1_w _).mono ?_; rintro e w1 ⟨rfl, hg1⟩; have S1 := (Blk.below S0.out (hg1.below (Nat.le_refl _)) (by simp)); have c0 := S1.c0 0 _ rfl; have c1 := S1.c0 1 _ rfl; have c2 := S1.c0 2 _ rfl; have c3 := S1.c0 3 _ rfl; have c4 := S1.c0 4 _ rfl; have c5 := S1.c0 5 _ rfl; simp at c0 c1 c2 c3 c4 c5; have hlt1 := S1.lt; have HS1 := Lib.hid S1; have Hg1 := Lib.hid hg1; clear S1 hg1)
    | (go_at_call 66; refine (HV.out _).mono ?_; rintro e w2 ⟨rfl, hg2⟩; have Hg2 := Lib.hid hg2; clear hg2))
  go_ret2
  refine ⟨rfl, ?_⟩
  refine Below.trans ((Below.refl _ _).alloc (Nat.le_refl _) (.cells #[.int .i64 1, .int .i64 s, .int .i64 l, .int .i64 i, .int .i64 o, .string (Str t)] 78)) ?_
  refine Below.trans (Hg1.out.below (by simp)) ?_
  refine Below.trans ((Below.refl _ _).alloc (by omega) (.cells #[.func (Fn.func 143) #[] #[], .func (Fn.func 144) #[] #[], .func (Fn.func 145) #[] #[]] 143)) ?_
  exact Hg2.out.below (by simp; omega)

set_option maxRecDepth 100000 in
set_option maxHeartbeats 1000000 in
theorem encode2no_w (s l i o : Int) (t : Bs) (w : World) (ht : t.length ≤ maxLen) (hv : validE ⟨2, s, l, i, o, t⟩ = false) :
    Calls Try.prog 62 #[.agg #[.int .i64 2, .int .i64 s, .int .i64 l, .int .i64 i, .int .i64 o, .string (Str t)]] w fun e w' => e = .returned (.tuple #[.string (Str []), .int .i64 30]) ∧ Below w.heap.size w w' := by
  have hva := fun wx => evalid_w 2 s l i o t wx ht
  rw [hv] at hva
  have S0 := Lib.hid (Blk.new w 78 #[.int .i64 2, .int .i64 s, .int .i64 l, .int .i64 i, .int .i64 o, .string (Str t)])
  have HV := Lib.hid hva
  clear hva hv ht
  go_enter Try.func62, Try.ntmps62
  go_wp2_with (first
    | (go_at_call 117; refine (kindOf2_w _).mono ?_; rintro e w1 ⟨rfl, hg1⟩; have S1 := (Blk.below S0.out (hg1.below (Nat.le_refl _)) (by simp)); have c0 := S1.c0 0 _ rfl; have c1 := S1.c0 1 _ rfl; have c2 := S1.c0 2 _ rfl; have c3 := S1.c0 3 _ rfl; have c4 := S1.c0 4 _ rfl; have c5 := S1.c0 5 _ rfl; simp at c0 c1 c2 c3 c4 c5; have hlt1 := S1.lt; have HS1 := Lib.hid S1; have Hg1 := Lib.hid hg1; clear S1 hg1)
    | (go_at_call 66; refine (HV.out _).mono ?_; rintro e w2 ⟨rfl, hg2⟩; have Hg2 := Lib.hid hg2; clear hg2))
  go_ret2
  refine ⟨rfl, ?_⟩
  refine Below.trans ((Below.refl _ _).alloc (Nat.le_refl _) (.cells #[.int .i64 2, .int .i64 s, .int .i64 l, .int .i64 i, .int .i64 o, .string (Str t)] 78)) ?_
  refine Below.trans (Hg1.out.below (by simp)) ?_
  refine Below.trans ((Below.refl _ _).alloc (by omega) (.cells #[.func (Fn.func 146) #[] #[], .func (Fn.func 147) #[] #[], .func (Fn.func 148) #[] #[]] 143)) ?_
  exact Hg2.out.below (by simp; omega)

set_option maxRecDepth 100000 in
set_option maxHeartbeats 1000000 in
theorem encode3no_w (s l i o : Int) (t : Bs) (w : World) (ht : t.length ≤ maxLen) (hv : validE ⟨3, s, l, i, o, t⟩ = false) :
    Calls Try.prog 62 #[.agg #[.int .i64 3, .int .i64 s, .int .i64 l, .int .i64 i, .int .i64 o, .string (Str t)]] w fun e w' => e = .returned (.tuple #[.string (Str []), .int .i64 30]) ∧ Below w.heap.size w w' := by
  have hva := fun wx => evalid_w 3 s l i o t wx ht
  rw [hv] at hva
  have S0 := Lib.hid (Blk.new w 78 #[.int .i64 3, .int .i64 s, .int .i64 l, .int .i64 i, .int .i64 o, .string (Str t)])
  have HV := Lib.hid hva
  clear hva hv ht
  go_enter Try.func62, Try.ntmps62
  go_wp2_with (first
    | (go_at_call 117; refine (kindOf3_w _).mono ?_; rintro e w1 ⟨rfl, hg1⟩; have S1 := (Blk.below S0.out (hg1.below (Nat.le_refl _)) (by simp)); have c0 := S1.c0 0 _ rfl; have c1 := S1.c0 1 _ rfl; have c2 := S1.c0 2 _ rfl; have c3 := S1.c0 3 _ rfl; have c4 := S1.c0 4 _ rfl; have c5 := S1.c0 5 _ rfl; simp at c0 c1 c2 c3 c4 c5; have hlt1 := S1.lt; have HS1 := Lib.hid S1; have Hg1 := Lib.hid hg1; clear S1 hg1)
    | (go_at_call 66; refine (HV.out _).mono ?_; rintro e w2 ⟨rfl, hg2⟩; have Hg2 := Lib.hid hg2; clear hg2))
  go_ret2
  refine ⟨rfl, ?_⟩
  refine Below.trans ((Below.refl _ _).alloc (Nat.le_refl _) (.cells #[.int .i64 3, .int .i64 s, .int .i64 l, .int .i64 i, .int .i64 o, .string (Str t)] 78)) ?_
  refine Below.trans (Hg1.out.below (by simp)) ?_
  refine Below.trans ((Below.refl _ _).alloc (by omega) (.cells #[.func (Fn.func 149) #[] #[], .func (Fn.func 151) #[] #[], .func (Fn.func 152) #[] #[]] 143)) ?_
  exact Hg2.out.below (by simp; omega)

set_option maxRecDepth 100000 in
set_option maxHeartbeats 1000000 in
theorem encode4no_w (s l i o : Int) (t : Bs) (w : World) (ht : t.length ≤ maxLen) (hv : validE ⟨4, s, l, i, o, t⟩ = false) :
    Calls Try.prog 62 #[.agg #[.int .i64 4, .int .i64 s, .int .i64 l, .int .i64 i, .int .i64 o, .string (Str t)]] w fun e w' => e = .returned (.tuple #[.string (Str []), .int .i64 30]) ∧ Below w.heap.size w w' := by
  have hva := fun wx => evalid_w 4 s l i o t wx ht
  rw [hv] at hva
  have S0 := Lib.hid (Blk.new w 78 #[.int .i64 4, .int .i64 s, .int .i64 l, .int .i64 i, .int .i64 o, .string (Str t)])
  have HV := Lib.hid hva
  clear hva hv ht
  go_enter Try.func62, Try.ntmps62
  go_wp2_with (first
    | (go_at_call 117; refine (kindOf4_w _).mono ?_; rintro e w1 ⟨rfl, hg1⟩; have S1 := (Blk.below S0.out (hg1.below (Nat.le_refl _)) (by simp)); have c0 := S1.c0 0 _ rfl; have c1 := S1.c0 1 _ rfl; have c2 := S1.c0 2 _ rfl; have c3 := S1.c0 3 _ rfl; have c4 := S1.c0 4 _ rfl; have c5 := S1.c0 5 _ rfl; simp at c0 c1 c2 c3 c4 c5; have hlt1 := S1.lt; have HS1 := Lib.hid S1; have Hg1 := Lib.hid hg1; clear S1 hg1)
    | (go_at_call 66; refine (HV.out _).mono ?_; rintro e w2 ⟨rfl, hg2⟩; have Hg2 := Lib.hid hg2; clear hg2))
  go_ret2
  refine ⟨rfl, ?_⟩
  refine Below.trans ((Below.refl _ _).alloc (Nat.le_refl _) (.cells #[.int .i64 4, .int .i64 s, .int .i64 l, .int .i64 i, .int .i64 o, .string (Str t)] 78)) ?_
  refine Below.trans (Hg1.out.below (by simp)) ?_
  refine Below.trans ((Below.refl _ _).alloc (by omega) (.cells #[.func (Fn.func 153) #[] #[], .func (Fn.func 154) #[] #[], .func (Fn.func 156) #[] #[]] 143)) ?_
  exact Hg2.out.below (by simp; omega)

set_option maxRecDepth 100000 in
set_option maxHeartbeats 1000000 in
theorem encode0_w (k s l i o : Int) (t : Bs) (w : World) (hk : k < 1 ∨ 5 ≤ k) :
    Calls Try.prog 62 #[.agg #[.int .i64 k, .int .i64 s, .int .i64 l, .int .i64 i, .int .i64 o, .string (Str t)]] w fun e w' => e = .returned (.tuple #[.string (Str []), .int .i64 30]) ∧ Below w.heap.size w w' := by
  have hh : ∀ wx, Calls Try.prog 117 #[.int .i64 k] wx fun e w' => e = .returned (.tuple #[.agg #[.nilFunc, .nilFunc, .nilFunc], .bool false]) ∧ Grown wx w' := fun wx => by
    rcases hk with h | h
    · exact kindOf_lo k wx h
    · exact kindOf_hi k wx h
  have Hh := Lib.hid hh
  have S0 := Lib.hid (Blk.new w 78 #[.int .i64 k, .int .i64 s, .int .i64 l, .int .i64 i, .int .i64 o, .string (Str t)])
  clear hh hk
  go_enter Try.func62, Try.ntmps62
  go_wp2_with (go_at_call 117; refine (Hh.out _).mono ?_; rintro e w1 ⟨rfl, hg1⟩; have S1 := (Blk.below S0.out (hg1.below (Nat.le_refl _)) (by simp)); have hlt1 := S1.lt; have Hg1 := Lib.hid hg1; clear S1 hg1)
  go_ret2
  refine ⟨rfl, ?_⟩
  refine Below.trans ((Below.refl _ _).alloc (Nat.le_refl _) (.cells #[.int .i64 k, .int .i64 s, .int .i64 l, .int .i64 i, .int .i64 o, .string (Str t)] 78)) ?_
  refine Below.trans (Hg1.out.below (by simp)) ?_
  exact (Below.refl _ _).alloc (by omega) (.cells #[.nilFunc, .nilFunc, .nilFunc] 143)

theorem validE_owner {k s l i o : Int} {t : Bs} (h : validE ⟨k, s, l, i, o, t⟩ = true) : 0 ≤ o ∧ o ≤ 255 := by
  unfold validE at h
  simp only [Bool.and_eq_true] at h
  have h1 := h.1
  simp [inB] at h1
  exact h1
theorem validE_kind {k s l i o : Int} {t : Bs} (h : validE ⟨k, s, l, i, o, t⟩ = true) : k = 1 ∨ k = 2 ∨ k = 3 ∨ k = 4 := by
  unfold validE fieldsB at h
  simp only [Bool.and_eq_true] at h
  have h2 := h.2
  by_cases h1 : k = 1
  · exact .inl h1
  · by_cases h2 : k = 2
    · exact .inr (.inl h2)
    · by_cases h3 : k = 3
      · exact .inr (.inr (.inl h3))
      · by_cases h4 : k = 4
        · exact .inr (.inr (.inr h4))
        · simp [h1, h2, h3, h4] at h
theorem validE_file {s l i o : Int} {t : Bs} (h : validE ⟨2, s, l, i, o, t⟩ = true) : 0 ≤ s ∧ s ≤ 60000 ∧ 0 ≤ l ∧ l ≤ 1000 ∧ i = 0 ∧ t = [] := by
  simp [validE, fieldsB, fileB, inB] at h
  exact ⟨by omega, by omega, by omega, by omega, by omega, h.2.2⟩
theorem validE_sym {s l i o : Int} {t : Bs} (h : validE ⟨3, s, l, i, o, t⟩ = true) : s = 0 ∧ l = 0 ∧ i = 0 ∧ textB t = true := by
  simp [validE, fieldsB, symB, inB] at h
  exact ⟨h.2.1.1.1, h.2.1.1.2, h.2.1.2, h.2.2⟩
theorem validE_link {s l i o : Int} {t : Bs} (h : validE ⟨4, s, l, i, o, t⟩ = true) : s = 0 ∧ l = 0 ∧ t = [] ∧ 0 ≤ i ∧ i ≤ 2147483647 := by
  simp [validE, fieldsB, linkB, inB] at h
  exact ⟨by omega, by omega, h.2.1.2, by omega, by omega⟩
theorem validE_dir {s l i o : Int} {t : Bs} (h : validE ⟨1, s, l, i, o, t⟩ = true) : s = 0 ∧ l = 0 ∧ i = 0 ∧ t = [] := by
  simp [validE, fieldsB, dirB, inB] at h
  exact ⟨h.2.1.1.1, h.2.1.1.2, h.2.1.2, h.2.2⟩
theorem textB_len {t : Bs} (h : textB t = true) : 1 ≤ t.length ∧ t.length ≤ 50 := by
  simp [textB] at h; omega

theorem encode_w (k s l i o : Int) (t : Bs) (w : World) (ht : t.length ≤ maxLen) :
    Calls Try.prog 62 #[.agg #[.int .i64 k, .int .i64 s, .int .i64 l, .int .i64 i, .int .i64 o, .string (Str t)]] w fun e w' => e = .returned (.tuple #[.string (Str (encE ⟨k, s, l, i, o, t⟩).1), .int .i64 (encE ⟨k, s, l, i, o, t⟩).2]) ∧ Below w.heap.size w w' := by
  cases hv : validE ⟨k, s, l, i, o, t⟩ with
  | true =>
    rw [show encE ⟨k, s, l, i, o, t⟩ = (valueE ⟨k, s, l, i, o, t⟩, 0) from by unfold encE; rw [if_pos hv]]
    obtain ⟨ho1, ho2⟩ := validE_owner hv
    obtain ⟨b, rfl⟩ : ∃ b : UInt8, o = b.toNat := ⟨o.toNat.toUInt8, by simp; omega⟩
    rcases validE_kind hv with rfl | rfl | rfl | rfl
    · exact encode1_w s l i b t w ht hv
    · have h := validE_file hv
      exact encode2_w s l i b t w ht hv (by omega) (by omega) (by omega) (by omega)
    · have h := textB_len (validE_sym hv).2.2.2
      exact encode3_w s l i b t w ht hv (by omega)
    · have h := validE_link hv
      exact encode4_w s l i b t w ht hv (by omega) (by omega)
  | false =>
    rw [show encE ⟨k, s, l, i, o, t⟩ = ([], 30) from by unfold encE; rw [if_neg (by rw [hv]; simp)]]
    by_cases h1 : k = 1
    · subst h1; exact encode1no_w s l i o t w ht hv
    · by_cases h2 : k = 2
      · subst h2; exact encode2no_w s l i o t w ht hv
      · by_cases h3 : k = 3
        · subst h3; exact encode3no_w s l i o t w ht hv
        · by_cases h4 : k = 4
          · subst h4; exact encode4no_w s l i o t w ht hv
          · exact encode0_w k s l i o t w (by omega)

end Go.Proofs.Yticlomakmcjcfaa

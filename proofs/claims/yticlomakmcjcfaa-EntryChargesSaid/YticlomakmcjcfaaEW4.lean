/-
  Walks: Valid of package entry.
-/
import Derived.Test.YticlomakmcjcfaaEW2
namespace Go.Proofs.Yticlomakmcjcfaa
open Go.RowKit Go.Sort
set_option linter.unusedVariables false

theorem within_g (n m : Int) (r : Bool) (h : inB n m = r) (w : World) : Calls Try.prog 121 #[.int .i64 n, .int .i64 m] w fun e w' => e = .returned (.bool r) ∧ Grown w w' :=
  (within_w n m w).mono fun e w' ⟨he, hw⟩ => ⟨by rw [he, h], hw ▸ Grown.refl w⟩

set_option maxRecDepth 100000 in
set_option maxHeartbeats 1000000 in
theorem valid1_w (s l i o : Int) (t : Bs) (w : World) (ht : t.length ≤ maxLen) :
    Calls Try.prog 66 #[.agg #[.int .i64 1, .int .i64 s, .int .i64 l, .int .i64 i, .int .i64 o, .string (Str t)]] w fun e w' => e = .returned (.bool (inB o 255 && (entQ 0 s l i 0 t 0 0 0 0 0 []))) ∧ Grown w w' := by
  have mixed := mixedA
  have hw := fun r h wx => within_g o 255 r h wx
  have hh := fun wx => withHead_w 1 s l i o 0 0 t wx
  have hf := fun wx => (k1_w 0 s l i 0 t _ : Calls Try.prog 143 #[.agg #[.int .i64 0, .int .i64 s, .int .i64 l, .int .i64 i, .int .i64 0, .string (Str t)]] wx _)
  clear ht
  generalize (entQ 0 s l i 0 t 0 0 0 0 0 []) = r at *
  have S0 := Blk.new w 78 #[.int .i64 1, .int .i64 s, .int .i64 l, .int .i64 i, .int .i64 o, .string (Str t)]
  cases hI : inB o 255 with
  | true =>
    have hw1 := hw true hI
    clear hI hw
    go_enter Try.func66, Try.ntmps66
    go_wp2_with (go_at_call 117; refine (kindOf1_w _).mono ?_; rintro e w1 ⟨rfl, hg1⟩; have c1 := (Blk.below S0 (hg1.below (Nat.le_refl _)) (by simp)).c0 0 _ rfl)
    have HG : Hid (Grown w (w1.alloc (.cells #[.func (Fn.func 143) #[] #[], .func (Fn.func 144) #[] #[], .func (Fn.func 145) #[] #[]] 143))) := Lib.hid (((grown_box _).trans hg1).alloc _)
    have S1 := (Blk.below S0 (hg1.below (Nat.le_refl _)) (by simp)).alloc (.cells #[.func (Fn.func 143) #[] #[], .func (Fn.func 144) #[] #[], .func (Fn.func 145) #[] #[]] 143)
    have S2 := Blk.new w1 143 #[.func (Fn.func 143) #[] #[], .func (Fn.func 144) #[] #[], .func (Fn.func 145) #[] #[]]
    clear S0 hg1 c1
    generalize w1.alloc (.cells #[.func (Fn.func 143) #[] #[], .func (Fn.func 144) #[] #[], .func (Fn.func 145) #[] #[]] 143) = wx at *
    have a0 := S1.c 0 _ rfl
    have a1 := S1.c 1 _ rfl
    have a2 := S1.c 2 _ rfl
    have a3 := S1.c 3 _ rfl
    have a4 := S1.c 4 _ rfl
    have a5 := S1.c 5 _ rfl
    have b0 := S2.c 0 _ rfl
    clear S1 S2
    go_quiet_grown (first
      | (go_at_call 121; refine calls_grown (hw1 _))
      | (go_at_call 119; refine calls_grown (hh _))
      | (go_at_call 143; refine calls_grown (hf _)))
    go_wp2
    go_ret
    exact ⟨ret_bool (by rfl), HG.out.trans ⟨_, _, rfl⟩⟩
  | false =>
    have hw1 := hw false hI
    clear hI hw hf hh
    go_enter Try.func66, Try.ntmps66
    go_wp2_with (go_at_call 117; refine (kindOf1_w _).mono ?_; rintro e w1 ⟨rfl, hg1⟩; have c1 := (Blk.below S0 (hg1.below (Nat.le_refl _)) (by simp)).c0 0 _ rfl)
    have HG : Hid (Grown w (w1.alloc (.cells #[.func (Fn.func 143) #[] #[], .func (Fn.func 144) #[] #[], .func (Fn.func 145) #[] #[]] 143))) := Lib.hid (((grown_box _).trans hg1).alloc _)
    have S1 := (Blk.below S0 (hg1.below (Nat.le_refl _)) (by simp)).alloc (.cells #[.func (Fn.func 143) #[] #[], .func (Fn.func 144) #[] #[], .func (Fn.func 145) #[] #[]] 143)
    clear S0 hg1 c1
    generalize w1.alloc (.cells #[.func (Fn.func 143) #[] #[], .func (Fn.func 144) #[] #[], .func (Fn.func 145) #[] #[]] 143) = wx at *
    have a4 := S1.c 4 _ rfl
    clear S1
    go_quiet_grown ((go_at_call 121; refine calls_grown (hw1 _)))
    go_wp2
    go_ret
    exact ⟨ret_bool (by rfl), HG.out.trans ⟨_, _, rfl⟩⟩

set_option maxRecDepth 100000 in
set_option maxHeartbeats 1000000 in
theorem valid2_w (s l i o : Int) (t : Bs) (w : World) (ht : t.length ≤ maxLen) :
    Calls Try.prog 66 #[.agg #[.int .i64 2, .int .i64 s, .int .i64 l, .int .i64 i, .int .i64 o, .string (Str t)]] w fun e w' => e = .returned (.bool (inB o 255 && (entQ 0 s l i 0 t 0 s l 0 0 [] && inB s 60000 && inB l 1000))) ∧ Grown w w' := by
  have mixed := mixedA
  have hw := fun r h wx => within_g o 255 r h wx
  have hh := fun wx => withHead_w 2 s l i o 0 0 t wx
  have hf := fun wx => (fileFits_w 0 s l i 0 t _ : Calls Try.prog 146 #[.agg #[.int .i64 0, .int .i64 s, .int .i64 l, .int .i64 i, .int .i64 0, .string (Str t)]] wx _)
  clear ht
  generalize (entQ 0 s l i 0 t 0 s l 0 0 [] && inB s 60000 && inB l 1000) = r at *
  have S0 := Blk.new w 78 #[.int .i64 2, .int .i64 s, .int .i64 l, .int .i64 i, .int .i64 o, .string (Str t)]
  cases hI : inB o 255 with
  | true =>
    have hw1 := hw true hI
    clear hI hw
    go_enter Try.func66, Try.ntmps66
    go_wp2_with (go_at_call 117; refine (kindOf2_w _).mono ?_; rintro e w1 ⟨rfl, hg1⟩; have c1 := (Blk.below S0 (hg1.below (Nat.le_refl _)) (by simp)).c0 0 _ rfl)
    have HG : Hid (Grown w (w1.alloc (.cells #[.func (Fn.func 146) #[] #[], .func (Fn.func 147) #[] #[], .func (Fn.func 148) #[] #[]] 143))) := Lib.hid (((grown_box _).trans hg1).alloc _)
    have S1 := (Blk.below S0 (hg1.below (Nat.le_refl _)) (by simp)).alloc (.cells #[.func (Fn.func 146) #[] #[], .func (Fn.func 147) #[] #[], .func (Fn.func 148) #[] #[]] 143)
    have S2 := Blk.new w1 143 #[.func (Fn.func 146) #[] #[], .func (Fn.func 147) #[] #[], .func (Fn.func 148) #[] #[]]
    clear S0 hg1 c1
    generalize w1.alloc (.cells #[.func (Fn.func 146) #[] #[], .func (Fn.func 147) #[] #[], .func (Fn.func 148) #[] #[]] 143) = wx at *
    have a0 := S1.c 0 _ rfl
    have a1 := S1.c 1 _ rfl
    have a2 := S1.c 2 _ rfl
    have a3 := S1.c 3 _ rfl
    have a4 := S1.c 4 _ rfl
    have a5 := S1.c 5 _ rfl
    have b0 := S2.c 0 _ rfl
    clear S1 S2
    go_quiet_grown (first
      | (go_at_call 121; refine calls_grown (hw1 _))
      | (go_at_call 119; refine calls_grown (hh _))
      | (go_at_call 146; refine calls_grown (hf _)))
    go_wp2
    go_ret
    exact ⟨ret_bool (by rfl), HG.out.trans ⟨_, _, rfl⟩⟩
  | false =>
    have hw1 := hw false hI
    clear hI hw hf hh
    go_enter Try.func66, Try.ntmps66
    go_wp2_with (go_at_call 117; refine (kindOf2_w _).mono ?_; rintro e w1 ⟨rfl, hg1⟩; have c1 := (Blk.below S0 (hg1.below (Nat.le_refl _)) (by simp)).c0 0 _ rfl)
    have HG : Hid (Grown w (w1.alloc (.cells #[.func (Fn.func 146) #[] #[], .func (Fn.func 147) #[] #[], .func (Fn.func 148) #[] #[]] 143))) := Lib.hid (((grown_box _).trans hg1).alloc _)
    have S1 := (Blk.below S0 (hg1.below (Nat.le_refl _)) (by simp)).alloc (.cells #[.func (Fn.func 146) #[] #[], .func (Fn.func 147) #[] #[], .func (Fn.func 148) #[] #[]] 143)
    clear S0 hg1 c1
    generalize w1.alloc (.cells #[.func (Fn.func 146) #[] #[], .func (Fn.func 147) #[] #[], .func (Fn.func 148) #[] #[]] 143) = wx at *
    have a4 := S1.c 4 _ rfl
    clear S1
    go_quiet_grown ((go_at_call 121; refine calls_grown (hw1 _)))
    go_wp2
    go_ret
    exact ⟨ret_bool (by rfl), HG.out.trans ⟨_, _, rfl⟩⟩

set_option maxRecDepth 100000 in
set_option maxHeartbeats 1000000 in
theorem valid3_w (s l i o : Int) (t : Bs) (w : World) (ht : t.length ≤ maxLen) :
    Calls Try.prog 66 #[.agg #[.int .i64 3, .int .i64 s, .int .i64 l, .int .i64 i, .int .i64 o, .string (Str t)]] w fun e w' => e = .returned (.bool (inB o 255 && (entQ 0 s l i 0 t 0 0 0 0 0 t && textB t))) ∧ Grown w w' := by
  have mixed := mixedA
  have hw := fun r h wx => within_g o 255 r h wx
  have hh := fun wx => withHead_w 3 s l i o 0 0 t wx
  have hf := fun wx => (k4_w 0 s l i 0 t _ ht : Calls Try.prog 149 #[.agg #[.int .i64 0, .int .i64 s, .int .i64 l, .int .i64 i, .int .i64 0, .string (Str t)]] wx _)
  clear ht
  generalize (entQ 0 s l i 0 t 0 0 0 0 0 t && textB t) = r at *
  have S0 := Blk.new w 78 #[.int .i64 3, .int .i64 s, .int .i64 l, .int .i64 i, .int .i64 o, .string (Str t)]
  cases hI : inB o 255 with
  | true =>
    have hw1 := hw true hI
    clear hI hw
    go_enter Try.func66, Try.ntmps66
    go_wp2_with (go_at_call 117; refine (kindOf3_w _).mono ?_; rintro e w1 ⟨rfl, hg1⟩; have c1 := (Blk.below S0 (hg1.below (Nat.le_refl _)) (by simp)).c0 0 _ rfl)
    have HG : Hid (Grown w (w1.alloc (.cells #[.func (Fn.func 149) #[] #[], .func (Fn.func 151) #[] #[], .func (Fn.func 152) #[] #[]] 143))) := Lib.hid (((grown_box _).trans hg1).alloc _)
    have S1 := (Blk.below S0 (hg1.below (Nat.le_refl _)) (by simp)).alloc (.cells #[.func (Fn.func 149) #[] #[], .func (Fn.func 151) #[] #[], .func (Fn.func 152) #[] #[]] 143)
    have S2 := Blk.new w1 143 #[.func (Fn.func 149) #[] #[], .func (Fn.func 151) #[] #[], .func (Fn.func 152) #[] #[]]
    clear S0 hg1 c1
    generalize w1.alloc (.cells #[.func (Fn.func 149) #[] #[], .func (Fn.func 151) #[] #[], .func (Fn.func 152) #[] #[]] 143) = wx at *
    have a0 := S1.c 0 _ rfl
    have a1 := S1.c 1 _ rfl
    have a2 := S1.c 2 _ rfl
    have a3 := S1.c 3 _ rfl
    have a4 := S1.c 4 _ rfl
    have a5 := S1.c 5 _ rfl
    have b0 := S2.c 0 _ rfl
    clear S1 S2
    go_quiet_grown (first
      | (go_at_call 121; refine calls_grown (hw1 _))
      | (go_at_call 119; refine calls_grown (hh _))
      | (go_at_call 149; refine calls_grown (hf _)))
    go_wp2
    go_ret
    exact ⟨ret_bool (by rfl), HG.out.trans ⟨_, _, rfl⟩⟩
  | false =>
    have hw1 := hw false hI
    clear hI hw hf hh
    go_enter Try.func66, Try.ntmps66
    go_wp2_with (go_at_call 117; refine (kindOf3_w _).mono ?_; rintro e w1 ⟨rfl, hg1⟩; have c1 := (Blk.below S0 (hg1.below (Nat.le_refl _)) (by simp)).c0 0 _ rfl)
    have HG : Hid (Grown w (w1.alloc (.cells #[.func (Fn.func 149) #[] #[], .func (Fn.func 151) #[] #[], .func (Fn.func 152) #[] #[]] 143))) := Lib.hid (((grown_box _).trans hg1).alloc _)
    have S1 := (Blk.below S0 (hg1.below (Nat.le_refl _)) (by simp)).alloc (.cells #[.func (Fn.func 149) #[] #[], .func (Fn.func 151) #[] #[], .func (Fn.func 152) #[] #[]] 143)
    clear S0 hg1 c1
    generalize w1.alloc (.cells #[.func (Fn.func 149) #[] #[], .func (Fn.func 151) #[] #[], .func (Fn.func 152) #[] #[]] 143) = wx at *
    have a4 := S1.c 4 _ rfl
    clear S1
    go_quiet_grown ((go_at_call 121; refine calls_grown (hw1 _)))
    go_wp2
    go_ret
    exact ⟨ret_bool (by rfl), HG.out.trans ⟨_, _, rfl⟩⟩

set_option maxRecDepth 100000 in
set_option maxHeartbeats 1000000 in
theorem valid4_w (s l i o : Int) (t : Bs) (w : World) (ht : t.length ≤ maxLen) :
    Calls Try.prog 66 #[.agg #[.int .i64 4, .int .i64 s, .int .i64 l, .int .i64 i, .int .i64 o, .string (Str t)]] w fun e w' => e = .returned (.bool (inB o 255 && (entQ 0 s l i 0 t 0 0 0 i 0 [] && inB i 2147483647))) ∧ Grown w w' := by
  have mixed := mixedA
  have hw := fun r h wx => within_g o 255 r h wx
  have hh := fun wx => withHead_w 4 s l i o 0 0 t wx
  have hf := fun wx => (k7_w 0 s l i 0 t _ : Calls Try.prog 153 #[.agg #[.int .i64 0, .int .i64 s, .int .i64 l, .int .i64 i, .int .i64 0, .string (Str t)]] wx _)
  clear ht
  generalize (entQ 0 s l i 0 t 0 0 0 i 0 [] && inB i 2147483647) = r at *
  have S0 := Blk.new w 78 #[.int .i64 4, .int .i64 s, .int .i64 l, .int .i64 i, .int .i64 o, .string (Str t)]
  cases hI : inB o 255 with
  | true =>
    have hw1 := hw true hI
    clear hI hw
    go_enter Try.func66, Try.ntmps66
    go_wp2_with (go_at_call 117; refine (kindOf4_w _).mono ?_; rintro e w1 ⟨rfl, hg1⟩; have c1 := (Blk.below S0 (hg1.below (Nat.le_refl _)) (by simp)).c0 0 _ rfl)
    have HG : Hid (Grown w (w1.alloc (.cells #[.func (Fn.func 153) #[] #[], .func (Fn.func 154) #[] #[], .func (Fn.func 156) #[] #[]] 143))) := Lib.hid (((grown_box _).trans hg1).alloc _)
    have S1 := (Blk.below S0 (hg1.below (Nat.le_refl _)) (by simp)).alloc (.cells #[.func (Fn.func 153) #[] #[], .func (Fn.func 154) #[] #[], .func (Fn.func 156) #[] #[]] 143)
    have S2 := Blk.new w1 143 #[.func (Fn.func 153) #[] #[], .func (Fn.func 154) #[] #[], .func (Fn.func 156) #[] #[]]
    clear S0 hg1 c1
    generalize w1.alloc (.cells #[.func (Fn.func 153) #[] #[], .func (Fn.func 154) #[] #[], .func (Fn.func 156) #[] #[]] 143) = wx at *
    have a0 := S1.c 0 _ rfl
    have a1 := S1.c 1 _ rfl
    have a2 := S1.c 2 _ rfl
    have a3 := S1.c 3 _ rfl
    have a4 := S1.c 4 _ rfl
    have a5 := S1.c 5 _ rfl
    have b0 := S2.c 0 _ rfl
    clear S1 S2
    go_quiet_grown (first
      | (go_at_call 121; refine calls_grown (hw1 _))
      | (go_at_call 119; refine calls_grown (hh _))
      | (go_at_call 153; refine calls_grown (hf _)))
    go_wp2
    go_ret
    exact ⟨ret_bool (by rfl), HG.out.trans ⟨_, _, rfl⟩⟩
  | false =>
    have hw1 := hw false hI
    clear hI hw hf hh
    go_enter Try.func66, Try.ntmps66
    go_wp2_with (go_at_call 117; refine (kindOf4_w _).mono ?_; rintro e w1 ⟨rfl, hg1⟩; have c1 := (Blk.below S0 (hg1.below (Nat.le_refl _)) (by simp)).c0 0 _ rfl)
    have HG : Hid (Grown w (w1.alloc (.cells #[.func (Fn.func 153) #[] #[], .func (Fn.func 154) #[] #[], .func (Fn.func 156) #[] #[]] 143))) := Lib.hid (((grown_box _).trans hg1).alloc _)
    have S1 := (Blk.below S0 (hg1.below (Nat.le_refl _)) (by simp)).alloc (.cells #[.func (Fn.func 153) #[] #[], .func (Fn.func 154) #[] #[], .func (Fn.func 156) #[] #[]] 143)
    clear S0 hg1 c1
    generalize w1.alloc (.cells #[.func (Fn.func 153) #[] #[], .func (Fn.func 154) #[] #[], .func (Fn.func 156) #[] #[]] 143) = wx at *
    have a4 := S1.c 4 _ rfl
    clear S1
    go_quiet_grown ((go_at_call 121; refine calls_grown (hw1 _)))
    go_wp2
    go_ret
    exact ⟨ret_bool (by rfl), HG.out.trans ⟨_, _, rfl⟩⟩

end Go.Proofs.Yticlomakmcjcfaa

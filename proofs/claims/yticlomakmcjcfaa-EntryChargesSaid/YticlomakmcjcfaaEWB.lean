/-
  Walks: the fixed examples that every law of package entry tries.
-/
import Derived.Test.YticlomakmcjcfaaEW8
import Derived.Test.YticlomakmcjcfaaEWA
namespace Go.Proofs.Yticlomakmcjcfaa
open Go.RowKit Go.Sort
set_option linter.unusedVariables false

theorem place_of {k : Bs} {f : Bool} {s : PSt} (h : keyS ⟨k, [], 0, 0, []⟩ = (f, s)) : placeS k = if f = true ∧ s.rest = [] then some s else none := by
  unfold placeS; simp only [h]

theorem sc_enc1 (w : World) : Calls Try.prog 62 #[.agg #[.int .i64 2, .int .i64 258, .int .i64 1, .int .i64 0, .int .i64 7, .string ⟨#[]⟩]] w fun e w' => e = .returned (.tuple #[.string ⟨#[2, 7, 1, 2, 0, 1]⟩, .int .i64 0]) ∧ Below w.heap.size w w' := by
  have h := encode_w 2 258 1 0 7 [] w (by decide)
  rw [show encE ⟨2, 258, 1, 0, 7, []⟩ = ([2, 7, 1, 2, 0, 1], 0) from by decide +kernel] at h
  exact h
theorem sc_enc2 (w : World) : Calls Try.prog 62 #[.agg #[.int .i64 0, .int .i64 0, .int .i64 0, .int .i64 0, .int .i64 0, .string ⟨#[]⟩]] w fun e w' => e = .returned (.tuple #[.string ⟨#[]⟩, .int .i64 30]) ∧ Below w.heap.size w w' := by
  have h := encode_w 0 0 0 0 0 [] w (by decide)
  rw [show encE ⟨0, 0, 0, 0, 0, []⟩ = ([], 30) from by decide +kernel] at h
  exact h
theorem sc_dec1 (w : World) : Calls Try.prog 64 #[.string ⟨#[1, 7]⟩] w fun e w' => e = .returned (.tuple #[.agg #[.int .i64 1, .int .i64 0, .int .i64 0, .int .i64 0, .int .i64 7, .string ⟨#[]⟩], .int .i64 0]) ∧ Below w.heap.size w w' := by
  have h := decode_w [1, 7] w (by decide)
  unfold decR at h
  rw [show decE [1, 7] = (⟨1, 0, 0, 0, 7, []⟩, 0) from by decide +kernel] at h
  exact h
theorem sc_dec2 (w : World) : Calls Try.prog 64 #[.string ⟨#[1, 7, 0]⟩] w fun e w' => e = .returned (.tuple #[.agg #[.int .i64 0, .int .i64 0, .int .i64 0, .int .i64 0, .int .i64 0, .string ⟨#[]⟩], .int .i64 30]) ∧ Below w.heap.size w w' := by
  have h := decode_w [1, 7, 0] w (by decide)
  unfold decR at h
  rw [show decE [1, 7, 0] = (⟨0, 0, 0, 0, 0, []⟩, 30) from by decide +kernel] at h
  exact h
theorem sc_dec3 (w : World) : Calls Try.prog 64 #[.string ⟨#[]⟩] w fun e w' => e = .returned (.tuple #[.agg #[.int .i64 0, .int .i64 0, .int .i64 0, .int .i64 0, .int .i64 0, .string ⟨#[]⟩], .int .i64 30]) ∧ Below w.heap.size w w' := by
  have h := decode_w [] w (by decide)
  unfold decR at h
  rw [show decE [] = (⟨0, 0, 0, 0, 0, []⟩, 30) from by decide +kernel] at h
  exact h
theorem sc_ch1 (w : World) : Calls Try.prog 60 #[.agg #[.string ⟨#[97, 47, 1]⟩, .string ⟨#[]⟩, .int .i64 0]] w fun e w' => e = .returned (.agg #[.int .i64 1, .int .i64 0]) ∧ Below w.heap.size w w' := by
  have h := charge_w [97, 47, 1] [] 0 w (by decide) (by decide)
  rw [show chargeS [97, 47, 1] [] = (1, 0) from by decide +kernel] at h
  exact h
theorem sc_ch2 (w : World) : Calls Try.prog 60 #[.agg #[.string ⟨#[97, 47, 2, 0, 0]⟩, .string ⟨#[49, 50, 51, 52, 53]⟩, .int .i64 0]] w fun e w' => e = .returned (.agg #[.int .i64 0, .int .i64 5]) ∧ Below w.heap.size w w' := by
  have h := charge_w [97, 47, 2, 0, 0] [49, 50, 51, 52, 53] 0 w (by decide) (by decide)
  rw [show chargeS [97, 47, 2, 0, 0] [49, 50, 51, 52, 53] = (0, 5) from by decide +kernel] at h
  exact h
theorem sc_ch3 (w : World) : Calls Try.prog 60 #[.agg #[.string ⟨#[6, 97, 47, 1]⟩, .string ⟨#[49, 50, 51, 52, 53]⟩, .int .i64 0]] w fun e w' => e = .returned (.agg #[.int .i64 0, .int .i64 0]) ∧ Below w.heap.size w w' := by
  have h := charge_w [6, 97, 47, 1] [49, 50, 51, 52, 53] 0 w (by decide) (by decide)
  rw [show chargeS [6, 97, 47, 1] [49, 50, 51, 52, 53] = (0, 0) from by decide +kernel] at h
  exact h
theorem isPairs_nil (w : World) : IsPairs w (.slice none 0 0) [] := ⟨none, 0, rfl, Nat.le_refl _, by unfold maxLen; omega, fun x hx => by simp at hx, fun h => absurd rfl h⟩
theorem sc_tot (w : World) : Calls Try.prog 68 #[.slice none 0 0] w fun e w' => e = .returned (.agg #[.int .i64 0, .int .i64 0]) ∧ Below w.heap.size w w' :=
  total_w (.slice none 0 0) [] w (isPairs_nil w) (by decide)
theorem sc_val1 (w : World) : Calls Try.prog 66 #[.agg #[.int .i64 1, .int .i64 0, .int .i64 0, .int .i64 0, .int .i64 7, .string ⟨#[]⟩]] w fun e w' => e = .returned (.bool true) ∧ Below w.heap.size w w' := by
  have h := evalid_w 1 0 0 0 7 [] w (by decide)
  rw [show validE ⟨1, 0, 0, 0, 7, []⟩ = true from by decide +kernel] at h
  exact h.mono fun e w' ⟨he, hg⟩ => ⟨he, hg.below (Nat.le_refl _)⟩
theorem sc_val2 (w : World) : Calls Try.prog 66 #[.agg #[.int .i64 0, .int .i64 0, .int .i64 0, .int .i64 0, .int .i64 0, .string ⟨#[]⟩]] w fun e w' => e = .returned (.bool false) ∧ Below w.heap.size w w' := by
  have h := evalid_w 0 0 0 0 0 [] w (by decide)
  rw [show validE ⟨0, 0, 0, 0, 0, []⟩ = false from by decide +kernel] at h
  exact h.mono fun e w' ⟨he, hg⟩ => ⟨he, hg.below (Nat.le_refl _)⟩

set_option maxRecDepth 100000 in
set_option maxHeartbeats 2000000 in
theorem sanity_w (w : World) : Calls Try.prog 59 #[] w fun e w' => e = .returned (.bool true) ∧ Below w.heap.size w w' := by
  have HB : Hid (Below w.heap.size w w) := Lib.hid (Below.refl _ _)
  go_enter Try.func59, Try.ntmps59
  go_wp2_with (first
    | (go_at_call_of 62 (Value.int IntKind.i64 258); refine (sc_enc1 _).mono ?_; rintro e w1 ⟨rfl, hb⟩; have HB1 := HB.out; have hsz := HB1.size; have HN : Below w.heap.size w w1 := (by first | exact Below.next HB1 (Nat.le_refl _) hb | exact Below.next (HB1.alloc hsz _) (Nat.le_refl _) hb | exact Below.next ((HB1.alloc hsz _).alloc (by simp; omega) _) (Nat.le_refl _) hb); clear HB HB1 hsz hb; have HB := Lib.hid HN; clear HN)
    | (go_at_call 62; refine (sc_enc2 _).mono ?_; rintro e w1 ⟨rfl, hb⟩; clear c0 c1 c2 c3 c4 c5 hltd; have hd0 := HD.out; have hd : Blk w1 wd.heap.size 78 #[.int .i64 1, .int .i64 0, .int .i64 0, .int .i64 0, .int .i64 7, .string ⟨#[]⟩] := (by first | exact Blk.below hd0 hb hd0.lt | exact Blk.below (hd0.alloc _) hb (hd0.alloc _).lt | exact Blk.below ((hd0.alloc _).alloc _) hb ((hd0.alloc _).alloc _).lt); clear hd0 HD; have c0 := hd.c0 0 _ rfl; have c1 := hd.c0 1 _ rfl; have c2 := hd.c0 2 _ rfl; have c3 := hd.c0 3 _ rfl; have c4 := hd.c0 4 _ rfl; have c5 := hd.c0 5 _ rfl; simp at c0 c1 c2 c3 c4 c5; have hltd := hd.lt; have HD := Lib.hid hd; clear hd; have HB1 := HB.out; have hsz := HB1.size; have HN : Below w.heap.size w w1 := (by first | exact Below.next HB1 (Nat.le_refl _) hb | exact Below.next (HB1.alloc hsz _) (Nat.le_refl _) hb | exact Below.next ((HB1.alloc hsz _).alloc (by simp; omega) _) (Nat.le_refl _) hb); clear HB HB1 hsz hb; have HB := Lib.hid HN; clear HN)
    | (go_at_call_of 64 (Value.string ⟨#[1, 7]⟩); refine (sc_dec1 _).mono ?_; rintro e wd ⟨rfl, hb⟩; have HB1 := HB.out; have hsz := HB1.size; have HN : Below w.heap.size w wd := (by first | exact Below.next HB1 (Nat.le_refl _) hb | exact Below.next (HB1.alloc hsz _) (Nat.le_refl _) hb | exact Below.next ((HB1.alloc hsz _).alloc (by simp; omega) _) (Nat.le_refl _) hb); clear HB HB1 hsz hb; have HB := Lib.hid HN; clear HN)
    | (go_at_call_of 64 (Value.string ⟨#[1, 7, 0]⟩); refine (sc_dec2 _).mono ?_; rintro e w1 ⟨rfl, hb⟩; have hd := Blk.below (Blk.new wd 78 #[.int .i64 1, .int .i64 0, .int .i64 0, .int .i64 0, .int .i64 7, .string ⟨#[]⟩]) hb (by simp); have c0 := hd.c0 0 _ rfl; have c1 := hd.c0 1 _ rfl; have c2 := hd.c0 2 _ rfl; have c3 := hd.c0 3 _ rfl; have c4 := hd.c0 4 _ rfl; have c5 := hd.c0 5 _ rfl; simp at c0 c1 c2 c3 c4 c5; have hltd := hd.lt; have HD := Lib.hid hd; clear hd; have HB1 := HB.out; have hsz := HB1.size; have HN : Below w.heap.size w w1 := (by first | exact Below.next HB1 (Nat.le_refl _) hb | exact Below.next (HB1.alloc hsz _) (Nat.le_refl _) hb | exact Below.next ((HB1.alloc hsz _).alloc (by simp; omega) _) (Nat.le_refl _) hb); clear HB HB1 hsz hb; have HB := Lib.hid HN; clear HN)
    | (go_at_call 64; refine (sc_dec3 _).mono ?_; rintro e w1 ⟨rfl, hb⟩; clear c0 c1 c2 c3 c4 c5 hltd; have hd0 := HD.out; have hd : Blk w1 wd.heap.size 78 #[.int .i64 1, .int .i64 0, .int .i64 0, .int .i64 0, .int .i64 7, .string ⟨#[]⟩] := (by first | exact Blk.below hd0 hb hd0.lt | exact Blk.below (hd0.alloc _) hb (hd0.alloc _).lt | exact Blk.below ((hd0.alloc _).alloc _) hb ((hd0.alloc _).alloc _).lt); clear hd0 HD; have c0 := hd.c0 0 _ rfl; have c1 := hd.c0 1 _ rfl; have c2 := hd.c0 2 _ rfl; have c3 := hd.c0 3 _ rfl; have c4 := hd.c0 4 _ rfl; have c5 := hd.c0 5 _ rfl; simp at c0 c1 c2 c3 c4 c5; have hltd := hd.lt; have HD := Lib.hid hd; clear hd; have HB1 := HB.out; have hsz := HB1.size; have HN : Below w.heap.size w w1 := (by first | exact Below.next HB1 (Nat.le_refl _) hb | exact Below.next (HB1.alloc hsz _) (Nat.le_refl _) hb | exact Below.next ((HB1.alloc hsz _).alloc (by simp; omega) _) (Nat.le_refl _) hb); clear HB HB1 hsz hb; have HB := Lib.hid HN; clear HN)
    | (go_at_call_of 60 (Value.string ⟨#[97, 47, 1]⟩); refine (sc_ch1 _).mono ?_; rintro e w1 ⟨rfl, hb⟩; clear c0 c1 c2 c3 c4 c5 hltd; have hd0 := HD.out; have hd : Blk w1 wd.heap.size 78 #[.int .i64 1, .int .i64 0, .int .i64 0, .int .i64 0, .int .i64 7, .string ⟨#[]⟩] := (by first | exact Blk.below hd0 hb hd0.lt | exact Blk.below (hd0.alloc _) hb (hd0.alloc _).lt | exact Blk.below ((hd0.alloc _).alloc _) hb ((hd0.alloc _).alloc _).lt); clear hd0 HD; have c0 := hd.c0 0 _ rfl; have c1 := hd.c0 1 _ rfl; have c2 := hd.c0 2 _ rfl; have c3 := hd.c0 3 _ rfl; have c4 := hd.c0 4 _ rfl; have c5 := hd.c0 5 _ rfl; simp at c0 c1 c2 c3 c4 c5; have hltd := hd.lt; have HD := Lib.hid hd; clear hd; have HB1 := HB.out; have hsz := HB1.size; have HN : Below w.heap.size w w1 := (by first | exact Below.next HB1 (Nat.le_refl _) hb | exact Below.next (HB1.alloc hsz _) (Nat.le_refl _) hb | exact Below.next ((HB1.alloc hsz _).alloc (by simp; omega) _) (Nat.le_refl _) hb); clear HB HB1 hsz hb; have HB := Lib.hid HN; clear HN)
    | (go_at_call_of 60 (Value.string ⟨#[97, 47, 2, 0, 0]⟩); refine (sc_ch2 _).mono ?_; rintro e w1 ⟨rfl, hb⟩; clear c0 c1 c2 c3 c4 c5 hltd; have hd0 := HD.out; have hd : Blk w1 wd.heap.size 78 #[.int .i64 1, .int .i64 0, .int .i64 0, .int .i64 0, .int .i64 7, .string ⟨#[]⟩] := (by first | exact Blk.below hd0 hb hd0.lt | exact Blk.below (hd0.alloc _) hb (hd0.alloc _).lt | exact Blk.below ((hd0.alloc _).alloc _) hb ((hd0.alloc _).alloc _).lt); clear hd0 HD; have c0 := hd.c0 0 _ rfl; have c1 := hd.c0 1 _ rfl; have c2 := hd.c0 2 _ rfl; have c3 := hd.c0 3 _ rfl; have c4 := hd.c0 4 _ rfl; have c5 := hd.c0 5 _ rfl; simp at c0 c1 c2 c3 c4 c5; have hltd := hd.lt; have HD := Lib.hid hd; clear hd; have HB1 := HB.out; have hsz := HB1.size; have HN : Below w.heap.size w w1 := (by first | exact Below.next HB1 (Nat.le_refl _) hb | exact Below.next (HB1.alloc hsz _) (Nat.le_refl _) hb | exact Below.next ((HB1.alloc hsz _).alloc (by simp; omega) _) (Nat.le_refl _) hb); clear HB HB1 hsz hb; have HB := Lib.hid HN; clear HN)
    | (go_at_call 60; refine (sc_ch3 _).mono ?_; rintro e w1 ⟨rfl, hb⟩; clear c0 c1 c2 c3 c4 c5 hltd; have hd0 := HD.out; have hd : Blk w1 wd.heap.size 78 #[.int .i64 1, .int .i64 0, .int .i64 0, .int .i64 0, .int .i64 7, .string ⟨#[]⟩] := (by first | exact Blk.below hd0 hb hd0.lt | exact Blk.below (hd0.alloc _) hb (hd0.alloc _).lt | exact Blk.below ((hd0.alloc _).alloc _) hb ((hd0.alloc _).alloc _).lt); clear hd0 HD; have c0 := hd.c0 0 _ rfl; have c1 := hd.c0 1 _ rfl; have c2 := hd.c0 2 _ rfl; have c3 := hd.c0 3 _ rfl; have c4 := hd.c0 4 _ rfl; have c5 := hd.c0 5 _ rfl; simp at c0 c1 c2 c3 c4 c5; have hltd := hd.lt; have HD := Lib.hid hd; clear hd; have HB1 := HB.out; have hsz := HB1.size; have HN : Below w.heap.size w w1 := (by first | exact Below.next HB1 (Nat.le_refl _) hb | exact Below.next (HB1.alloc hsz _) (Nat.le_refl _) hb | exact Below.next ((HB1.alloc hsz _).alloc (by simp; omega) _) (Nat.le_refl _) hb); clear HB HB1 hsz hb; have HB := Lib.hid HN; clear HN)
    | (go_at_call 68; refine (sc_tot _).mono ?_; rintro e w1 ⟨rfl, hb⟩; clear c0 c1 c2 c3 c4 c5 hltd; have hd0 := HD.out; have hd : Blk w1 wd.heap.size 78 #[.int .i64 1, .int .i64 0, .int .i64 0, .int .i64 0, .int .i64 7, .string ⟨#[]⟩] := (by first | exact Blk.below hd0 hb hd0.lt | exact Blk.below (hd0.alloc _) hb (hd0.alloc _).lt | exact Blk.below ((hd0.alloc _).alloc _) hb ((hd0.alloc _).alloc _).lt); clear hd0 HD; have c0 := hd.c0 0 _ rfl; have c1 := hd.c0 1 _ rfl; have c2 := hd.c0 2 _ rfl; have c3 := hd.c0 3 _ rfl; have c4 := hd.c0 4 _ rfl; have c5 := hd.c0 5 _ rfl; simp at c0 c1 c2 c3 c4 c5; have hltd := hd.lt; have HD := Lib.hid hd; clear hd; have HB1 := HB.out; have hsz := HB1.size; have HN : Below w.heap.size w w1 := (by first | exact Below.next HB1 (Nat.le_refl _) hb | exact Below.next (HB1.alloc hsz _) (Nat.le_refl _) hb | exact Below.next ((HB1.alloc hsz _).alloc (by simp; omega) _) (Nat.le_refl _) hb); clear HB HB1 hsz hb; have HB := Lib.hid HN; clear HN)
    | (go_at_call_of 66 (Value.int IntKind.i64 7); refine (sc_val1 _).mono ?_; rintro e w1 ⟨rfl, hb⟩; clear c0 c1 c2 c3 c4 c5 hltd; have hd0 := HD.out; have hd : Blk w1 wd.heap.size 78 #[.int .i64 1, .int .i64 0, .int .i64 0, .int .i64 0, .int .i64 7, .string ⟨#[]⟩] := (by first | exact Blk.below hd0 hb hd0.lt | exact Blk.below (hd0.alloc _) hb (hd0.alloc _).lt | exact Blk.below ((hd0.alloc _).alloc _) hb ((hd0.alloc _).alloc _).lt); clear hd0 HD; have c0 := hd.c0 0 _ rfl; have c1 := hd.c0 1 _ rfl; have c2 := hd.c0 2 _ rfl; have c3 := hd.c0 3 _ rfl; have c4 := hd.c0 4 _ rfl; have c5 := hd.c0 5 _ rfl; simp at c0 c1 c2 c3 c4 c5; have hltd := hd.lt; have HD := Lib.hid hd; clear hd; have HB1 := HB.out; have hsz := HB1.size; have HN : Below w.heap.size w w1 := (by first | exact Below.next HB1 (Nat.le_refl _) hb | exact Below.next (HB1.alloc hsz _) (Nat.le_refl _) hb | exact Below.next ((HB1.alloc hsz _).alloc (by simp; omega) _) (Nat.le_refl _) hb); clear HB HB1 hsz hb; have HB := Lib.hid HN; clear HN)
    | (go_at_call 66; refine (sc_val2 _).mono ?_; rintro e w1 ⟨rfl, hb⟩; clear c0 c1 c2 c3 c4 c5 hltd; have hd0 := HD.out; have hd : Blk w1 wd.heap.size 78 #[.int .i64 1, .int .i64 0, .int .i64 0, .int .i64 0, .int .i64 7, .string ⟨#[]⟩] := (by first | exact Blk.below hd0 hb hd0.lt | exact Blk.below (hd0.alloc _) hb (hd0.alloc _).lt | exact Blk.below ((hd0.alloc _).alloc _) hb ((hd0.alloc _).alloc _).lt); clear hd0 HD; have c0 := hd.c0 0 _ rfl; have c1 := hd.c0 1 _ rfl; have c2 := hd.c0 2 _ rfl; have c3 := hd.c0 3 _ rfl; have c4 := hd.c0 4 _ rfl; have c5 := hd.c0 5 _ rfl; simp at c0 c1 c2 c3 c4 c5; have hltd := hd.lt; have HD := Lib.hid hd; clear hd; have HB1 := HB.out; have hsz := HB1.size; have HN : Below w.heap.size w w1 := (by first | exact Below.next HB1 (Nat.le_refl _) hb | exact Below.next (HB1.alloc hsz _) (Nat.le_refl _) hb | exact Below.next ((HB1.alloc hsz _).alloc (by simp; omega) _) (Nat.le_refl _) hb); clear HB HB1 hsz hb; have HB := Lib.hid HN; clear HN))
  go_ret
  exact ⟨rfl, HB.out⟩

end Go.Proofs.Yticlomakmcjcfaa

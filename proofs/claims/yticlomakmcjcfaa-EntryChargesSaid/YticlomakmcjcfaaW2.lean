/-
  Walks: the parser of package path.
-/
import Derived.Test.YticlomakmcjcfaaW1
import Derived.Test.YticlomakmcjcfaaSh
namespace Go.Proofs.Yticlomakmcjcfaa
open Go.RowKit

/-- Block b holds these cells, none frozen. -/
def Blk (w : World) (b : Nat) (T : TypeId) (cs : Array Value) : Prop := w.heap[b]? = some (.cells cs T (0, 0))
/-- Only block b may have turned. -/
structure Only (b : Nat) (w w' : World) : Prop where
  os : w'.os = w.os
  tape : w'.tape = w.tape
  output : w'.output = w.output
  size : w'.heap.size = w.heap.size
  block : ∀ k, k ≠ b → w'.heap[k]? = w.heap[k]?

theorem Only.refl (b : Nat) (w : World) : Only b w w := ⟨rfl, rfl, rfl, rfl, fun _ _ => rfl⟩
theorem Only.trans {b : Nat} {x y z : World} (h : Only b x y) (k : Only b y z) : Only b x z :=
  ⟨k.os.trans h.os, k.tape.trans h.tape, k.output.trans h.output, k.size.trans h.size, fun i hi => (k.block i hi).trans (h.block i hi)⟩
theorem Only.setCell (b i : Nat) (v : Value) (w : World) : Only b w (w.setCell ⟨b, i, none⟩ v) :=
  ⟨rfl, rfl, rfl, by simp [World.setCell], fun k hk => Below.heap_setCell _ _ _ _ hk⟩
theorem Only.drewN (b n : Nat) (w : World) : Only b w (w.drewN n) := ⟨rfl, rfl, rfl, rfl, fun _ _ => rfl⟩
theorem Only.drew {b : Nat} {x y : World} (h : Only b x y) : Only b x y.drew := ⟨h.os, h.tape, h.output, h.size, h.block⟩
theorem Only.below {b B : Nat} {w w' : World} (h : Only b w w') (hB : B ≤ b) : Below B w w' :=
  ⟨h.os, h.tape, h.output, Nat.le_of_eq h.size.symm, fun k hk => h.block k (by omega)⟩
theorem Blk.cell {w : World} {b : Nat} {T : TypeId} {cs : Array Value} (h : Blk w b T cs) (i : Nat) : w.cell? ⟨b, i, none⟩ = cs[i]? := by
  unfold World.cell?; rw [h]; rfl
theorem Blk.free {w : World} {b : Nat} {T : TypeId} {cs : Array Value} (h : Blk w b T cs) (i : Nat) : w.frozen? ⟨b, i, none⟩ = false := by
  unfold World.frozen?; rw [h]; simp
theorem Blk.setCell {w : World} {b : Nat} {T : TypeId} {cs : Array Value} (h : Blk w b T cs) (i : Nat) (v : Value) : Blk (w.setCell ⟨b, i, none⟩ v) b T (cs.setIfInBounds i v) := by
  unfold Blk World.setCell; simp only [Array.getElem?_modify, ↓reduceIte]; rw [h]; simp
theorem Blk.setCell_other {w : World} {b : Nat} {T : TypeId} {cs : Array Value} (h : Blk w b T cs) {c : Nat} (hc : b ≠ c) (i : Nat) (v : Value) : Blk (w.setCell ⟨c, i, none⟩ v) b T cs := by
  unfold Blk; rw [Below.heap_setCell _ _ _ _ hc]; exact h
theorem Blk.only {w w' : World} {b c : Nat} {T : TypeId} {cs : Array Value} (h : Blk w b T cs) (ho : Only c w w') (hc : b ≠ c) : Blk w' b T cs := by
  unfold Blk; rw [ho.block b hc]; exact h
theorem Blk.below {w w' : World} {b B : Nat} {T : TypeId} {cs : Array Value} (h : Blk w b T cs) (ho : Below B w w') (hc : b < B) : Blk w' b T cs := by
  unfold Blk; rw [ho.block b hc]; exact h
theorem Blk.drewN {w : World} {b : Nat} {T : TypeId} {cs : Array Value} (h : Blk w b T cs) (n : Nat) : Blk (w.drewN n) b T cs := h
theorem Blk.new (w : World) (T : TypeId) (cs : Array Value) : Blk (w.alloc (.cells cs T)) w.heap.size T cs := by
  unfold Blk World.alloc; simp
theorem Blk.new' {n : Nat} (w : World) (T : TypeId) (cs : Array Value) (h : n = w.heap.size) : Blk (w.alloc (.cells cs T)) n T cs := by subst h; exact Blk.new w T cs
theorem Blk.alloc {w : World} {b : Nat} {T : TypeId} {cs : Array Value} (h : Blk w b T cs) (o : Obj) : Blk (w.alloc o) b T cs := by
  have hl : b < w.heap.size := by unfold Blk at h; rw [Array.getElem?_eq_some_iff] at h; exact h.1
  unfold Blk; rw [Below.heap_alloc _ _ _ hl]; exact h
theorem Blk.lt {w : World} {b : Nat} {T : TypeId} {cs : Array Value} (h : Blk w b T cs) : b < w.heap.size := by
  unfold Blk at h; rw [Array.getElem?_eq_some_iff] at h; exact h.1

theorem toList_Str (l : Bs) : (Str l).toList = l := by rw [Lib.toList_data]; rfl
theorem size_Str (l : Bs) : (Str l).size = l.length := by rw [size_len, toList_Str]
theorem Str_toList (s : ByteArray) : Str s.toList = s := by rw [Lib.toList_data]; exact Lib.mk_data s
theorem extract_Str (s : ByteArray) (a b : Nat) : s.extract a b = Str ((s.toList.drop a).take (b - a)) := by rw [← Str_toList (s.extract a b), Lib.extract_toList, Lib.toList_data]
theorem extract_from (s : ByteArray) (a : Nat) : s.extract a s.size = Str (s.toList.drop a) := by
  rw [extract_Str, List.take_of_length_le (by rw [List.length_drop, size_len]; exact Nat.le_refl _)]
theorem extract_to (s : ByteArray) (b : Nat) : s.extract 0 b = Str (s.toList.take b) := by rw [extract_Str]; simp

/-- What a step of the parser does with its text, which is cell 0 of block b. -/
def Took (b : Nat) (T : TypeId) (cs : Array Value) (l : Bs) (w w' : World) : Prop := Blk w' b T (cs.setIfInBounds 0 (.string (Str l))) ∧ Only b w w'

theorem Took.same {b : Nat} {T : TypeId} {cs : Array Value} {s : ByteArray} {w : World} (h : Blk w b T cs) (h0 : cs[0]? = some (.string s)) : Took b T cs s.toList w w := by
  refine ⟨?_, Only.refl _ _⟩
  have : cs.setIfInBounds 0 (.string (Str s.toList)) = cs := by
    rw [Str_toList]
    apply Array.ext
    · simp
    · intro i h1 h2
      by_cases e : i = 0
      · subst e; simp; rw [Array.getElem?_eq_getElem (by simpa using h2)] at h0; simpa using h0.symm
      · rw [Array.getElem_setIfInBounds (by simpa using h2)]; simp [Ne.symm e]
  rw [this]; exact h
theorem Took.set {b : Nat} {T : TypeId} {cs : Array Value} {s : ByteArray} {w : World} (h : Blk w b T cs) (l : Bs) (hs : s = Str l) : Took b T cs l w (w.setCell ⟨b, 0, none⟩ (.string s)) := by
  subst hs; exact ⟨h.setCell 0 _, Only.setCell _ _ _ _⟩
theorem Took.trans {b : Nat} {T : TypeId} {cs : Array Value} {l m : Bs} {x y z : World} (h : Took b T cs l x y) (k : Took b T (cs.setIfInBounds 0 (.string (Str l))) m y z) : Took b T cs m x z := by
  refine ⟨?_, h.2.trans k.2⟩
  have := k.1
  rwa [Array.setIfInBounds_setIfInBounds] at this

theorem markS_hit {n : Int} {s : ByteArray} (h : 0 < s.size) (hn : (s[0].toNat : Int) = n) : markS n s.toList = some (s.toList.drop 1) := by
  have h0 := get_toList s 0 h
  cases hl : s.toList with
  | nil => rw [hl] at h0; simp at h0
  | cons x r => rw [hl] at h0; simp at h0; subst h0; simp [markS, hn]
theorem markS_miss {n : Int} {s : ByteArray} (h : 0 < s.size) (hn : ¬ (s[0].toNat : Int) = n) : markS n s.toList = none := by
  have h0 := get_toList s 0 h
  cases hl : s.toList with
  | nil => rfl
  | cons x r => rw [hl] at h0; simp at h0; subst h0; simp [markS, hn]

set_option maxHeartbeats 400000 in
theorem mark_w (b : Nat) (T : TypeId) (cs : Array Value) (s : ByteArray) (n : Int) (w : World) (hs : s.size ≤ maxLen) (hb : Blk w b T cs) (h0 : cs[0]? = some (.string s)) :
    Calls Try.prog 131 #[.pointer (some ⟨b, 0, none⟩), .int .u8 n] w fun e w' => e = .returned (.bool (markS n s.toList).isSome) ∧ Took b T cs ((markS n s.toList).getD s.toList) w w' := by
  have hc : w.cell? ⟨b, 0, none⟩ = some (.string s) := by rw [hb.cell, h0]
  have hf := hb.free 0
  have H0 := Lib.hid h0
  clear h0
  unfold maxLen at hs
  by_cases he : s.size = 0
  · have hl : s.toList = [] := List.length_eq_zero_iff.1 (by rw [← size_len]; exact he)
    have H1 : Hid (markS n s.toList = none) := by rw [hl]; rfl
    have hl' : s.toList.isEmpty = true := by rw [hl]; rfl
    clear hl he
    go_enter Try.func131, Try.ntmps131
    go_wp2
    go_ret
    rw [H1.out]
    exact ⟨rfl, Took.same hb H0.out⟩
  · have hpos : 0 < s.size := by omega
    have hl' : s.toList.isEmpty = false := by
      have := size_len s
      cases h : s.toList with
      | nil => rw [h] at this; simp only [List.length_nil] at this; omega
      | cons x r => rfl
    clear he
    by_cases hn : (s[0].toNat : Int) = n
    · have H1 := Lib.hid (markS_hit hpos hn)
      have hb' : ((s[0].toNat : Int) != n) = false := by rw [hn]; simp
      clear hn
      go_enter Try.func131, Try.ntmps131
      go_wp2
      go_ret
      rw [H1.out]
      exact ⟨rfl, Took.set hb _ (extract_from s 1)⟩
    · have H1 := Lib.hid (markS_miss hpos hn)
      have hb' : ((s[0].toNat : Int) != n) = true := by simpa using hn
      clear hn
      go_enter Try.func131, Try.ntmps131
      go_wp2
      go_ret
      rw [H1.out]
      exact ⟨rfl, Took.same hb H0.out⟩

theorem indexByte_of (c : UInt8) (l : Bs) : Lib.indexByte l c = match idxOf c l with | none => -1 | some n => (n : Int) := by
  induction l with
  | nil => rfl
  | cons x r ih =>
    simp only [Lib.indexByte, idxOf]
    by_cases h : (x == c) = true
    · simp [h]
    · simp only [h, Bool.false_eq_true, ↓reduceIte, ih]
      cases idxOf c r with
      | none => simp
      | some n => simp

theorem slash_no (s : ByteArray) (w : World) (h : idxOf 47 s.toList = none) :
    Calls Try.prog 163 #[.string s, .int .u8 47] w fun e w' => e = .returned (.int .i64 (-1)) ∧ w = w' :=
  (Try.strings_IndexByte s 47 w).mono fun e w' ⟨he, hw⟩ => ⟨by rw [he, indexByte_of, ← Lib.toList_data]; show _ = _; rw [show (47 : Int).toNat.toUInt8 = 47 from rfl, h], hw.symm⟩
theorem slash_yes (s : ByteArray) (n : Nat) (w : World) (h : idxOf 47 s.toList = some n) :
    Calls Try.prog 163 #[.string s, .int .u8 47] w fun e w' => e = .returned (.int .i64 n) ∧ w = w' :=
  (Try.strings_IndexByte s 47 w).mono fun e w' ⟨he, hw⟩ => ⟨by rw [he, indexByte_of, ← Lib.toList_data]; show _ = _; rw [show (47 : Int).toNat.toUInt8 = 47 from rfl, h], hw.symm⟩

set_option maxHeartbeats 400000 in
theorem name_w (b : Nat) (T : TypeId) (cs : Array Value) (s : ByteArray) (w : World) (hs : s.size ≤ maxLen) (hb : Blk w b T cs) (h0 : cs[0]? = some (.string s)) :
    Calls Try.prog 134 #[.pointer (some ⟨b, 0, none⟩)] w fun e w' => e = .returned (.bool (nameStep s.toList).isSome) ∧ Took b T cs ((nameStep s.toList).getD s.toList) w w' := by
  have hc : w.cell? ⟨b, 0, none⟩ = some (.string s) := by rw [hb.cell, h0]
  have hf := hb.free 0
  have H0 := Lib.hid h0
  clear h0
  unfold maxLen at hs
  cases hi : idxOf 47 s.toList with
  | none =>
    have H1 : Hid (nameStep s.toList = none) := by show nameStep s.toList = none; unfold nameStep; rw [hi]
    have Hi := Lib.hid hi
    clear hi
    go_enter Try.func134, Try.ntmps134
    go_wp2_with (go_at_call 163; refine (slash_no _ _ Hi.out).mono ?_; rintro e w' ⟨rfl, rfl⟩)
    go_ret
    rw [H1.out]
    exact ⟨rfl, Took.same hb H0.out⟩
  | some n =>
    have hn : n < s.size := by have := idxOf_le hi; rw [← size_len] at this; exact this
    have Hi := Lib.hid hi
    have Hx : Hid ((s.extract 0 n).toList = s.toList.take n) := by show _ = _; rw [extract_to, toList_Str]
    by_cases hB : nameB (s.toList.take n) = true
    · have H1 : Hid (nameStep s.toList = some (s.toList.drop (n + 1))) := by show _ = _; unfold nameStep; rw [hi]; simp [hB]
      have HB := Lib.hid hB
      clear hi hB
      go_enter Try.func134, Try.ntmps134
      go_wp2_with (first
        | (go_at_call 163; refine (slash_yes _ n _ Hi.out).mono ?_; rintro e w' ⟨rfl, rfl⟩)
        | (go_at_call 95; refine (isName_w _ _ (by simp; unfold maxLen; omega)).mono ?_; rw [Hx.out, HB.out]; rintro e w' ⟨rfl, rfl⟩))
      go_ret
      rw [H1.out]
      exact ⟨rfl, Took.set hb _ (extract_from s (n + 1))⟩
    · have H1 : Hid (nameStep s.toList = none) := by show _ = _; unfold nameStep; rw [hi]; simp [hB]
      have HB : Hid (nameB (s.toList.take n) = false) := Lib.hid (by simpa using hB)
      clear hi hB
      go_enter Try.func134, Try.ntmps134
      go_wp2_with (first
        | (go_at_call 163; refine (slash_yes _ n _ Hi.out).mono ?_; rintro e w' ⟨rfl, rfl⟩)
        | (go_at_call 95; refine (isName_w _ _ (by simp; unfold maxLen; omega)).mono ?_; rw [Hx.out, HB.out]; rintro e w' ⟨rfl, rfl⟩))
      go_ret
      rw [H1.out]
      exact ⟨rfl, Took.same hb H0.out⟩

def cellLen (b : Nat) (w : World) : Nat := match w.cell? ⟨b, 0, none⟩ with | some (.string s) => s.size | _ => 0
theorem Took.cell {b : Nat} {T : TypeId} {cs : Array Value} {l : Bs} {w w' : World} (h : Took b T cs l w w') (h0 : 0 < cs.size) : w'.cell? ⟨b, 0, none⟩ = some (.string (Str l)) := by
  rw [h.1.cell]; simp [h0]
theorem Took.len {b : Nat} {T : TypeId} {cs : Array Value} {l : Bs} {w w' : World} (h : Took b T cs l w w') (h0 : 0 < cs.size) : cellLen b w' = l.length := by
  unfold cellLen; rw [h.cell h0]; exact size_Str l

/-- The relation of the loop over names. -/
def PathRel (b : Nat) (T : TypeId) (cs : Array Value) (l : Bs) (w wr : World) : Prop := ∃ r : Bs, Took b T cs r w wr ∧ restP r = restP l ∧ r.length ≤ l.length

theorem ret_str {a b : ByteArray} (h : a = b) : Ending.returned (.string a) = .returned (.string b) := by rw [h]
theorem size_of_getD (r : Bs) : Option.getD (none : Option Bs) r = r := rfl

set_option maxHeartbeats 400000 in
theorem path_w (b : Nat) (T : TypeId) (cs : Array Value) (s : ByteArray) (w : World) (hs : s.size ≤ maxLen) (hb : Blk w b T cs) (h0 : cs[0]? = some (.string s)) :
    Calls Try.prog 99 #[.pointer (some ⟨b, 0, none⟩)] w fun e w' => e = .returned (.string (Str (pathP s.toList))) ∧ Took b T cs (restP s.toList) w w' := by
  have hc : w.cell? ⟨b, 0, none⟩ = some (.string s) := by rw [hb.cell, h0]
  have hz : 0 < cs.size := by rw [Array.getElem?_eq_some_iff] at h0; exact h0.1
  have H0 := Lib.hid h0
  clear h0
  unfold maxLen at hs
  go_enter Try.func99, Try.ntmps99
  go_wp2
  go_loopw [] (fun wr => PathRel b T cs s.toList w wr) (fun wr => cellLen b wr)
  case atStart => exact ⟨s.toList, Took.same hb H0.out, rfl, Nat.le_refl _⟩
  case round =>
    obtain ⟨r, ht, hr, hl⟩ := hrel
    have hcr := ht.cell hz
    have hsz : (Str r).size ≤ maxLen := by unfold maxLen; rw [size_Str]; have := size_len s; omega
    have hrl : (restP r).length ≤ s.toList.length := by have := restP_length r; omega
    have hnm := name_w b T _ (Str r) wr hsz ht.1 (by simp [hz])
    rw [toList_Str] at hnm
    cases hn : nameStep r with
    | some r' =>
      rw [hn] at hnm
      have Hnm := Lib.hid hnm
      have hlt := nameStep_lt hn
      have Hrr : Hid (restP r' = restP s.toList) := by show _ = _; rw [← hr, restP_some hn]
      have Ht := Lib.hid ht
      clear hnm ht hr hn hcr
      go_wp2_with (go_at_call 134; refine Hnm.out.mono ?_; rintro e w1 ⟨rfl, ht1⟩; have Ht1 := Lib.hid ht1; clear ht1)
      go_roundw
      case rel => exact ⟨r', Ht.out.trans Ht1.out, Hrr.out, by omega⟩
      case measure =>
        have h1 := (Ht.out.trans Ht1.out).len hz
        have h2 := Ht.out.len hz
        simp only [Option.getD_some] at h1
        rw [h1, h2]; exact hlt
    | none =>
      rw [hn] at hnm
      have Hnm := Lib.hid hnm
      have hre := restP_none hn
      have Hrr : Hid (restP s.toList = r) := by show _ = _; rw [← hr, hre]
      have Ht := Lib.hid ht
      have Hz := Lib.hid hz
      have hsz2 : (Str r).size ≤ s.size := by rw [size_Str, size_len]; exact hl
      have Hl : Hid (s.size - (Str r).size = s.toList.length - r.length) := by show _ = _; rw [size_Str, ← size_len]
      generalize hgt : Str r = t at *
      have Hgt := Lib.hid hgt
      clear hnm ht hr hn hcr hre hrl hl hgt
      go_wp2_with (go_at_call 134; refine Hnm.out.mono ?_; rintro e w1 ⟨rfl, ht1⟩; have hc1 := ht1.cell (by simp [Hz.out]); rw [size_of_getD, Hgt.out] at hc1; have Ht1 := Lib.hid ht1; clear ht1)
      go_ret
      have h2 := Took.trans (m := r) Ht.out (by rw [Hgt.out]; exact Ht1.out)
      refine ⟨ret_str ?_, by rw [Hrr.out]; exact h2⟩
      rw [pathP, Hrr.out, ← Hl.out]
      exact extract_to _ _

end Go.Proofs.Yticlomakmcjcfaa

/-
  Keys and places: what package path computes, and its walks. What pairs are charged, and totals, walked; charges.
-/
import Derived.Test.YtmbfghbhajmpiaaGreatY5
import Derived.WalkKit
import Derived.Lib.Strings
import Derived.Deep.QuietTactic
import Derived.BigQuiet
import Derived.RegionTactic
import Derived.ChangeAlike
import Derived.BigRegion
import Derived.Deep.RegionWith
namespace Go.Proofs.YtmbfghbhajmpiaaGreat
theorem Only.drew {b : Nat} {x y : World} (h : Only b x y) : Only b x y.drew := ⟨h.os, h.tape, h.output, h.size, h.block⟩
end Go.Proofs.YtmbfghbhajmpiaaGreat
namespace Go.Proofs.YtmbfghbhajmpiaaGreat.P1
/-- A byte that a name may have. -/
def chB (c : UInt8) : Bool := decide (32 < c.toNat) && decide (c.toNat ≤ 126) && !(c == 47)
/-- A name. -/
def nameB (l : Bs) : Bool := !l.isEmpty && decide (l.length ≤ 12) && !(l == [46]) && !(l == [46, 46]) && l.all chB
/-- Where a byte stands first. -/
def idxOf (c : UInt8) : Bs → Option Nat
  | [] => none
  | x :: r => if x == c then some 0 else (idxOf c r).map (· + 1)
theorem idxOf_le {c : UInt8} {l : Bs} {n : Nat} (h : idxOf c l = some n) : n < l.length := by
  induction l generalizing n with
  | nil => simp [idxOf] at h
  | cons x r ih =>
    simp only [idxOf] at h
    split at h
    · simp at h; subst h; simp
    · cases h' : idxOf c r with
      | none => simp [h'] at h
      | some m => simp [h'] at h; subst h; have := ih h'; simp; omega
/-- A name and a slash in front: what comes after. -/
def nameStep (l : Bs) : Option Bs :=
  match idxOf 47 l with
  | none => none
  | some n => if nameB (l.take n) then some (l.drop (n + 1)) else none
theorem nameStep_lt {l r : Bs} (h : nameStep l = some r) : r.length < l.length := by
  unfold nameStep at h
  split at h
  · cases h
  · rename_i n hn
    have := idxOf_le hn
    split at h
    · simp at h; subst h; simp; omega
    · cases h
/-- What is left when all names in front are gone. -/
def restF : Nat → Bs → Bs
  | 0, l => l
  | k + 1, l => match nameStep l with
    | none => l
    | some r => restF k r
def restP (l : Bs) : Bs := restF l.length l
theorem restF_succ (k : Nat) : ∀ (l : Bs), l.length ≤ k → restF (k + 1) l = restF k l := by
  induction k with
  | zero => intro l h; have : l = [] := List.length_eq_zero_iff.1 (by omega); subst this; rfl
  | succ k ih =>
    intro l h
    rw [restF]
    conv => rhs; rw [restF]
    split
    · rfl
    · rename_i r hr
      exact ih r (by have := nameStep_lt hr; omega)
theorem restF_add (l : Bs) (d : Nat) : restF (l.length + d) l = restP l := by
  induction d with
  | zero => rfl
  | succ d ih => rw [← ih, ← Nat.add_assoc, restF_succ _ _ (by omega)]
theorem restF_le {k : Nat} {l : Bs} (h : l.length ≤ k) : restF k l = restP l := by
  have := restF_add l (k - l.length)
  rwa [Nat.add_sub_cancel' h] at this
theorem restP_none {l : Bs} (h : nameStep l = none) : restP l = l := by
  rw [← restF_le (Nat.le_succ l.length), restF, h]
theorem restP_some {l r : Bs} (h : nameStep l = some r) : restP l = restP r := by
  rw [← restF_le (Nat.le_succ l.length), restF, h]
  exact restF_le (by have := nameStep_lt h; omega)
theorem restP_length (l : Bs) : (restP l).length ≤ l.length := by
  suffices h : ∀ k (l : Bs), l.length ≤ k → (restP l).length ≤ l.length from h _ l (Nat.le_refl _)
  intro k
  induction k with
  | zero => intro l h; have : l = [] := List.length_eq_zero_iff.1 (by omega); subst this; exact Nat.le_refl _
  | succ k ih =>
    intro l h
    cases hn : nameStep l with
    | none => rw [restP_none hn]; exact Nat.le_refl _
    | some r => rw [restP_some hn]; have := nameStep_lt hn; have := ih r (by omega); omega
/-- A path. -/
def validB (l : Bs) : Bool := restP l == []
/-- The path in front. -/
def pathP (l : Bs) : Bs := l.take (l.length - (restP l).length)
/-- A digit of a body. -/
def digB (n : Int) : Bool := (decide (48 ≤ n) && decide (n ≤ 57)) || (decide (97 ≤ n) && decide (n ≤ 102))
/-- A body. -/
def bodyB (l : Bs) : Bool :=
  decide (l.length = 10) && (l[0]? == some 5) && (l[9]? == some 47) && ((l.drop 1).take 8).all (fun c => digB c.toNat) && (l[1]?.any fun c => decide (c.toNat ≤ 55))
/-- The owner in front, and what comes after. -/
def ownP (l : Bs) : Bs × Bs :=
  if 10 ≤ l.length ∧ bodyB (l.take 10) = true then (l.take 10, l.drop 10) else (pathP l, restP l)
/-- What the parser of a key holds. -/
structure PSt where
  rest : Bs
  path : Bs
  tag : Int
  n : Int
  name : Bs
def blockS (s : PSt) : Bool × PSt :=
  match s.rest with
  | x :: y :: r => (decide ((x.toNat : Int) * 256 + y.toNat ≤ 60000), { s with rest := r, n := (x.toNat : Int) * 256 + y.toNat })
  | _ => (false, s)
def attrS (s : PSt) : Bool × PSt := (nameB s.rest, { s with rest := [], name := s.rest })
def taggedS (s : PSt) : Bool × PSt :=
  match s.rest with
  | [] => (false, s)
  | x :: r =>
    let t : PSt := { s with rest := r, tag := x.toNat }
    if (x.toNat : Int) = 1 then (true, t) else if (x.toNat : Int) = 2 then blockS t else if (x.toNat : Int) = 3 then attrS t else (false, t)
/-- The byte n in front: what comes after. -/
def markS (n : Int) : Bs → Option Bs
  | [] => none
  | x :: r => if (x.toNat : Int) = n then some r else none
def keyS (s : PSt) : Bool × PSt :=
  match markS 6 s.rest with
  | some r =>
    let t : PSt := ⟨restP r, pathP r, 4, 0, []⟩
    ((markS 1 t.rest).isSome, { t with rest := (markS 1 t.rest).getD t.rest })
  | none => taggedS { s with path := (ownP s.rest).1, rest := (ownP s.rest).2 }
/-- What Place tells of a key. -/
def placeS (k : Bs) : Option PSt :=
  let f := keyS ⟨k, [], 0, 0, []⟩
  if f.1 = true ∧ f.2.rest = [] then some f.2 else none
/-- The path that is typed so; or the number of an error. -/
def parseS (l : Bs) : Bs × Int :=
  if l = [47] then ([], 0) else if l = [] ∨ ¬ l[0]? = some 47 ∨ 200 < l.length then ([], 10) else if validB (l.tail ++ [47]) = true then (l.tail ++ [47], 0) else ([], 10)
def ownsS (t : Int) (p : Bs) : Bool := if t = 1 ∨ t = 2 ∨ t = 3 then validB p || bodyB p else if t = 4 then validB p else false
def fitsS (t n : Int) (m : Bs) : Bool :=
  if t = 2 then decide (0 ≤ n) && decide (n ≤ 60000) && m.isEmpty else if t = 3 then decide (n = 0) && nameB m else decide (n = 0) && m.isEmpty
def keyK (t : Int) (p : Bs) (n : Int) (m : Bs) : Bs :=
  if t = 2 then p ++ [2, (n / 256).toNat.toUInt8, (n % 256).toNat.toUInt8] else if t = 3 then p ++ [3] ++ m else if t = 4 then [6] ++ p ++ [1] else p ++ [1]
def keyF (p : Bs) (t n : Int) (m : Bs) : Bs × Int := if ownsS t p = true ∧ fitsS t n m = true then (keyK t p n m, 0) else ([], 12)
/-- The eight names of the reference. -/
def callS (n : Nat) : Bs := ([[97], [98], [97, 48], [126], [33], [120, 46, 121], [116, 119, 101, 108, 118, 101, 108, 101, 116, 116, 101, 114], [46, 46, 46]] : List Bs).getD (n % 8) []
def madeL (l : Bs) : Bs := l.flatMap fun c => callS c.toNat ++ [47]
/-- The path that the reference makes of a list of numbers. -/
def madeS (l : Bs) : Bs := madeL (l.take 4)
theorem prefix_self (p r : Bs) : p.isPrefixOf (p ++ r) = true := by rw [List.isPrefixOf_iff_prefix]; exact List.prefix_append _ _
open Go.RowKit
theorem get_toList (s : ByteArray) (k : Nat) (h : k < s.size) : s.toList[k]? = some s[k] := by
  rw [Lib.toList_data, Array.getElem?_toList]
  exact Array.getElem?_eq_getElem h
theorem take_succ' (s : ByteArray) (k : Nat) (h : k < s.size) : s.toList.take (k + 1) = s.toList.take k ++ [s[k]] := by
  rw [List.take_add_one, get_toList s k h]; rfl
theorem nameB_bad {l : Bs} (h : (l.isEmpty = true ∨ 12 < (l.length : Int)) ∨ l = [46] ∨ l = [46, 46]) : nameB l = false := by
  unfold nameB
  rcases h with (h | h) | h | h
  · simp [h]
  · have : decide (l.length ≤ 12) = false := by simp; omega
    simp [this]
  · subst h; decide
  · subst h; decide
theorem nameB_all {l : Bs} (h1 : l.isEmpty = false) (h2 : (l.length : Int) ≤ 12) (h3 : (l == [46]) = false) (h4 : (l == [46, 46]) = false) : nameB l = l.all chB := by
  unfold nameB
  have : decide (l.length ≤ 12) = true := by simp; omega
  simp [h1, h3, h4, this]
theorem all_bad {l : Bs} {k : Nat} {c : UInt8} (h : l[k]? = some c) (hc : chB c = false) : l.all chB = false := by
  rw [List.all_eq_false]
  exact ⟨c, List.mem_of_getElem? h, by simp [hc]⟩
theorem chB_of {c : UInt8} (h1 : 32 < (c.toNat : Int)) (h2 : (c.toNat : Int) ≤ 126) (h3 : (c.toNat : Int) ≠ 47) : chB c = true := by
  have h4 : ¬ c = 47 := fun e => h3 (by rw [e]; rfl)
  simp [chB, h4]; omega
theorem chB_no {c : UInt8} (h : (c.toNat : Int) ≤ 32 ∨ 126 < (c.toNat : Int) ∨ (c.toNat : Int) = 47) : chB c = false := by
  simp only [chB, Bool.and_eq_false_iff, decide_eq_false_iff_not, Bool.not_eq_false', beq_iff_eq]
  rcases h with h | h | h
  · exact .inl (.inl (by omega))
  · exact .inl (.inr (by omega))
  · exact .inr (by apply UInt8.toNat_inj.1; simpa using (by omega : c.toNat = 47))
set_option maxHeartbeats 400000 in
theorem isName_w (s : ByteArray) (w : World) (hs : s.size ≤ maxLen) :
    Calls Tryz.prog 252 #[.string s] w fun e w' => e = .returned (.bool (nameB s.toList)) ∧ w = w' := by
  unfold maxLen at hs
  have hz := size_len s
  have Hz := Lib.hid hz
  clear hz
  by_cases g : (s.toList.isEmpty = true ∨ 12 < (s.size : Int)) ∨ s.toList = [46] ∨ s.toList = [46, 46]
  · have hn : nameB s.toList = false := nameB_bad (by rw [← Hz.out]; exact g)
    have Hn := Lib.hid hn
    have Hg := Lib.hid g
    clear hn g
    go_enter Tryz.func252, Tryz.ntmps252
    go_wp2
    all_goals first
      | (go_ret; exact ⟨ret_bool Hn.out.symm, rfl⟩)
      | (exfalso; go_light; rcases Hg.out with (g | g) | g | g <;> first | (simp_all; done) | (simp_all; omega))
  · have h1 : s.toList.isEmpty = false := by simp at g ⊢; exact g.1.1
    have h2 : (s.size : Int) ≤ 12 := by omega
    have h3 : (s.toList == [46]) = false := by simp at g ⊢; exact g.2.1
    have h4 : (s.toList == [46, 46]) = false := by simp at g ⊢; exact g.2.2
    have hn : nameB s.toList = s.toList.all chB := nameB_all h1 (by rw [← Hz.out]; exact h2) h3 h4
    have Hn := Lib.hid hn
    clear hn g
    go_enter Tryz.func252, Tryz.ntmps252
    go_wp2
    go_loop [21] (fun i => ∃ k : Nat, k ≤ s.size ∧ i = .int .i64 k ∧ Hid ((s.toList.take k).all chB = true)) (fun i => s.size - (intOf i).toNat)
    case atStart => exact ⟨0, Nat.zero_le _, rfl, Lib.hid rfl⟩
    case round =>
      obtain ⟨k, hk, rfl, hall⟩ := hrel
      by_cases hlt : k < s.size
      · have hg := Lib.hid (get_toList s k hlt)
        have ht := Lib.hid (take_succ' s k hlt)
        go_wp2
        all_goals first
          | (go_ret
             exact ⟨ret_bool (by rw [Hn.out]; exact (all_bad hg.out (chB_no (by
               go_light; (try simp only [beq_iff_eq] at *); omega))).symm), rfl⟩)
          | (go_round
             case rel => exact ⟨k + 1, by omega, by go_num, Lib.hid (by
               rw [ht.out, List.all_append, hall.out]
               have : chB s[k] = true := chB_of (by go_light; omega) (by go_light; omega) (by go_light; (try simp only [beq_eq_false_iff_ne, ne_eq] at *); omega)
               simp [this])⟩
             case measure => simp [intOf]; omega)
      · go_wp2
        go_ret
        exact ⟨ret_bool (by rw [Hn.out, ← hall.out, List.take_of_length_le (by rw [← Hz.out]; omega)]), rfl⟩
/-- What a step of the parser does with its text, which is cell 0 of block b. -/
def Took (b : Nat) (T : TypeId) (cs : Array Value) (l : Bs) (w w' : World) : Prop := Blk w' b T (cs.setIfInBounds 0 (.string (Str l))) ∧ Only b w w'
theorem Took.same {b : Nat} {T : TypeId} {cs : Array Value} {s : ByteArray} {w : World} (h : Blk w b T cs) (h0 : cs[0]? = some (.string s)) : Took b T cs s.toList w w := by
  refine ⟨?_, Only.refl _ _⟩
  have : cs.setIfInBounds 0 (.string (Str s.toList)) = cs := by
    rw [Str_toList]
    apply Array.ext
    · simp
    · intro i h1 h2
      by_cases e : i = 0
      · subst e; simp; rw [Array.getElem?_eq_getElem (by simpa using h2)] at h0; simpa using h0.symm
      · rw [Array.getElem_setIfInBounds (by simpa using h2)]; simp [Ne.symm e]
  rw [this]; exact h
theorem Took.set {b : Nat} {T : TypeId} {cs : Array Value} {s : ByteArray} {w : World} (h : Blk w b T cs) (l : Bs) (hs : s = Str l) : Took b T cs l w (w.setCell ⟨b, 0, none⟩ (.string s)) := by
  subst hs; exact ⟨h.setCell 0 _, Only.setCell _ _ _ _⟩
theorem Took.trans {b : Nat} {T : TypeId} {cs : Array Value} {l m : Bs} {x y z : World} (h : Took b T cs l x y) (k : Took b T (cs.setIfInBounds 0 (.string (Str l))) m y z) : Took b T cs m x z := by
  refine ⟨?_, h.2.trans k.2⟩
  have := k.1
  rwa [Array.setIfInBounds_setIfInBounds] at this
theorem markS_hit {n : Int} {s : ByteArray} (h : 0 < s.size) (hn : (s[0].toNat : Int) = n) : markS n s.toList = some (s.toList.drop 1) := by
  have h0 := get_toList s 0 h
  cases hl : s.toList with
  | nil => rw [hl] at h0; simp at h0
  | cons x r => rw [hl] at h0; simp at h0; subst h0; simp [markS, hn]
theorem markS_miss {n : Int} {s : ByteArray} (h : 0 < s.size) (hn : ¬ (s[0].toNat : Int) = n) : markS n s.toList = none := by
  have h0 := get_toList s 0 h
  cases hl : s.toList with
  | nil => rfl
  | cons x r => rw [hl] at h0; simp at h0; subst h0; simp [markS, hn]
set_option maxHeartbeats 400000 in
theorem mark_w (b : Nat) (T : TypeId) (cs : Array Value) (s : ByteArray) (n : Int) (w : World) (hs : s.size ≤ maxLen) (hb : Blk w b T cs) (h0 : cs[0]? = some (.string s)) :
    Calls Tryz.prog 222 #[.pointer (some ⟨b, 0, none⟩), .int .u8 n] w fun e w' => e = .returned (.bool (markS n s.toList).isSome) ∧ Took b T cs ((markS n s.toList).getD s.toList) w w' := by
  have hc : w.cell? ⟨b, 0, none⟩ = some (.string s) := by rw [hb.cell, h0]
  have hf := hb.free 0
  have H0 := Lib.hid h0
  clear h0
  unfold maxLen at hs
  by_cases he : s.size = 0
  · have hl : s.toList = [] := List.length_eq_zero_iff.1 (by rw [← size_len]; exact he)
    have H1 : Hid (markS n s.toList = none) := by rw [hl]; rfl
    have hl' : s.toList.isEmpty = true := by rw [hl]; rfl
    clear hl he
    go_enter Tryz.func222, Tryz.ntmps222
    go_wp2
    go_ret
    rw [H1.out]
    exact ⟨rfl, Took.same hb H0.out⟩
  · have hpos : 0 < s.size := by omega
    have hl' : s.toList.isEmpty = false := by
      have := size_len s
      cases h : s.toList with
      | nil => rw [h] at this; simp only [List.length_nil] at this; omega
      | cons x r => rfl
    clear he
    by_cases hn : (s[0].toNat : Int) = n
    · have H1 := Lib.hid (markS_hit hpos hn)
      have hb' : ((s[0].toNat : Int) != n) = false := by rw [hn]; simp
      clear hn
      go_enter Tryz.func222, Tryz.ntmps222
      go_wp2
      go_ret
      rw [H1.out]
      exact ⟨rfl, Took.set hb _ (extract_from s 1)⟩
    · have H1 := Lib.hid (markS_miss hpos hn)
      have hb' : ((s[0].toNat : Int) != n) = true := by simpa using hn
      clear hn
      go_enter Tryz.func222, Tryz.ntmps222
      go_wp2
      go_ret
      rw [H1.out]
      exact ⟨rfl, Took.same hb H0.out⟩
theorem indexByte_of (c : UInt8) (l : Bs) : Lib.indexByte l c = match idxOf c l with | none => -1 | some n => (n : Int) := by
  induction l with
  | nil => rfl
  | cons x r ih =>
    simp only [Lib.indexByte, idxOf]
    by_cases h : (x == c) = true
    · simp [h]
    · simp only [h, Bool.false_eq_true, ↓reduceIte, ih]
      cases idxOf c r with
      | none => simp
      | some n => simp
theorem slash_no (s : ByteArray) (w : World) (h : idxOf 47 s.toList = none) :
    Calls Tryz.prog 251 #[.string s, .int .u8 47] w fun e w' => e = .returned (.int .i64 (-1)) ∧ w = w' :=
  (Tryz.strings_IndexByte s 47 w).mono fun e w' ⟨he, hw⟩ => ⟨by rw [he, indexByte_of, ← Lib.toList_data]; show _ = _; rw [show (47 : Int).toNat.toUInt8 = 47 from rfl, h], hw.symm⟩
theorem slash_yes (s : ByteArray) (n : Nat) (w : World) (h : idxOf 47 s.toList = some n) :
    Calls Tryz.prog 251 #[.string s, .int .u8 47] w fun e w' => e = .returned (.int .i64 n) ∧ w = w' :=
  (Tryz.strings_IndexByte s 47 w).mono fun e w' ⟨he, hw⟩ => ⟨by rw [he, indexByte_of, ← Lib.toList_data]; show _ = _; rw [show (47 : Int).toNat.toUInt8 = 47 from rfl, h], hw.symm⟩
set_option maxHeartbeats 400000 in
theorem name_w (b : Nat) (T : TypeId) (cs : Array Value) (s : ByteArray) (w : World) (hs : s.size ≤ maxLen) (hb : Blk w b T cs) (h0 : cs[0]? = some (.string s)) :
    Calls Tryz.prog 239 #[.pointer (some ⟨b, 0, none⟩)] w fun e w' => e = .returned (.bool (nameStep s.toList).isSome) ∧ Took b T cs ((nameStep s.toList).getD s.toList) w w' := by
  have hc : w.cell? ⟨b, 0, none⟩ = some (.string s) := by rw [hb.cell, h0]
  have hf := hb.free 0
  have H0 := Lib.hid h0
  clear h0
  unfold maxLen at hs
  cases hi : idxOf 47 s.toList with
  | none =>
    have H1 : Hid (nameStep s.toList = none) := by show nameStep s.toList = none; unfold nameStep; rw [hi]
    have Hi := Lib.hid hi
    clear hi
    go_enter Tryz.func239, Tryz.ntmps239
    go_wp2_with (go_at_call 251; refine (slash_no _ _ Hi.out).mono ?_; rintro e w' ⟨rfl, rfl⟩)
    go_ret
    rw [H1.out]
    exact ⟨rfl, Took.same hb H0.out⟩
  | some n =>
    have hn : n < s.size := by have := idxOf_le hi; rw [← size_len] at this; exact this
    have Hi := Lib.hid hi
    have Hx : Hid ((s.extract 0 n).toList = s.toList.take n) := by show _ = _; rw [extract_to, toList_Str]
    by_cases hB : nameB (s.toList.take n) = true
    · have H1 : Hid (nameStep s.toList = some (s.toList.drop (n + 1))) := by show _ = _; unfold nameStep; rw [hi]; simp [hB]
      have HB := Lib.hid hB
      clear hi hB
      go_enter Tryz.func239, Tryz.ntmps239
      go_wp2_with (first
        | (go_at_call 251; refine (slash_yes _ n _ Hi.out).mono ?_; rintro e w' ⟨rfl, rfl⟩)
        | (go_at_call 252; refine (isName_w _ _ (by simp; unfold maxLen; omega)).mono ?_; rw [Hx.out, HB.out]; rintro e w' ⟨rfl, rfl⟩))
      go_ret
      rw [H1.out]
      exact ⟨rfl, Took.set hb _ (extract_from s (n + 1))⟩
    · have H1 : Hid (nameStep s.toList = none) := by show _ = _; unfold nameStep; rw [hi]; simp [hB]
      have HB : Hid (nameB (s.toList.take n) = false) := Lib.hid (by simpa using hB)
      clear hi hB
      go_enter Tryz.func239, Tryz.ntmps239
      go_wp2_with (first
        | (go_at_call 251; refine (slash_yes _ n _ Hi.out).mono ?_; rintro e w' ⟨rfl, rfl⟩)
        | (go_at_call 252; refine (isName_w _ _ (by simp; unfold maxLen; omega)).mono ?_; rw [Hx.out, HB.out]; rintro e w' ⟨rfl, rfl⟩))
      go_ret
      rw [H1.out]
      exact ⟨rfl, Took.same hb H0.out⟩
def cellLen (b : Nat) (w : World) : Nat := match w.cell? ⟨b, 0, none⟩ with | some (.string s) => s.size | _ => 0
theorem Took.cell {b : Nat} {T : TypeId} {cs : Array Value} {l : Bs} {w w' : World} (h : Took b T cs l w w') (h0 : 0 < cs.size) : w'.cell? ⟨b, 0, none⟩ = some (.string (Str l)) := by
  rw [h.1.cell]; simp [h0]
theorem Took.len {b : Nat} {T : TypeId} {cs : Array Value} {l : Bs} {w w' : World} (h : Took b T cs l w w') (h0 : 0 < cs.size) : cellLen b w' = l.length := by
  unfold cellLen; rw [h.cell h0]; exact size_Str l
/-- The relation of the loop over names. -/
def PathRel (b : Nat) (T : TypeId) (cs : Array Value) (l : Bs) (w wr : World) : Prop := ∃ r : Bs, Took b T cs r w wr ∧ restP r = restP l ∧ r.length ≤ l.length
theorem size_of_getD (r : Bs) : Option.getD (none : Option Bs) r = r := rfl
set_option maxHeartbeats 400000 in
theorem path_w (b : Nat) (T : TypeId) (cs : Array Value) (s : ByteArray) (w : World) (hs : s.size ≤ maxLen) (hb : Blk w b T cs) (h0 : cs[0]? = some (.string s)) :
    Calls Tryz.prog 223 #[.pointer (some ⟨b, 0, none⟩)] w fun e w' => e = .returned (.string (Str (pathP s.toList))) ∧ Took b T cs (restP s.toList) w w' := by
  have hc : w.cell? ⟨b, 0, none⟩ = some (.string s) := by rw [hb.cell, h0]
  have hz : 0 < cs.size := by rw [Array.getElem?_eq_some_iff] at h0; exact h0.1
  have H0 := Lib.hid h0
  clear h0
  unfold maxLen at hs
  go_enter Tryz.func223, Tryz.ntmps223
  go_wp2
  go_loopw [] (fun wr => PathRel b T cs s.toList w wr) (fun wr => cellLen b wr)
  case atStart => exact ⟨s.toList, Took.same hb H0.out, rfl, Nat.le_refl _⟩
  case round =>
    obtain ⟨r, ht, hr, hl⟩ := hrel
    have hcr := ht.cell hz
    have hsz : (Str r).size ≤ maxLen := by unfold maxLen; rw [size_Str]; have := size_len s; omega
    have hrl : (restP r).length ≤ s.toList.length := by have := restP_length r; omega
    have hnm := name_w b T _ (Str r) wr hsz ht.1 (by simp [hz])
    rw [toList_Str] at hnm
    cases hn : nameStep r with
    | some r' =>
      rw [hn] at hnm
      have Hnm := Lib.hid hnm
      have hlt := nameStep_lt hn
      have Hrr : Hid (restP r' = restP s.toList) := by show _ = _; rw [← hr, restP_some hn]
      have Ht := Lib.hid ht
      clear hnm ht hr hn hcr
      go_wp2_with (go_at_call 239; refine Hnm.out.mono ?_; rintro e w1 ⟨rfl, ht1⟩; have Ht1 := Lib.hid ht1; clear ht1)
      go_roundw
      case rel => exact ⟨r', Ht.out.trans Ht1.out, Hrr.out, by omega⟩
      case measure =>
        have h1 := (Ht.out.trans Ht1.out).len hz
        have h2 := Ht.out.len hz
        simp only [Option.getD_some] at h1
        rw [h1, h2]; exact hlt
    | none =>
      rw [hn] at hnm
      have Hnm := Lib.hid hnm
      have hre := restP_none hn
      have Hrr : Hid (restP s.toList = r) := by show _ = _; rw [← hr, hre]
      have Ht := Lib.hid ht
      have Hz := Lib.hid hz
      have hsz2 : (Str r).size ≤ s.size := by rw [size_Str, size_len]; exact hl
      have Hl : Hid (s.size - (Str r).size = s.toList.length - r.length) := by show _ = _; rw [size_Str, ← size_len]
      generalize hgt : Str r = t at *
      have Hgt := Lib.hid hgt
      clear hnm ht hr hn hcr hre hrl hl hgt
      go_wp2_with (go_at_call 239; refine Hnm.out.mono ?_; rintro e w1 ⟨rfl, ht1⟩; have hc1 := ht1.cell (by simp [Hz.out]); rw [size_of_getD, Hgt.out] at hc1; have Ht1 := Lib.hid ht1; clear ht1)
      go_ret
      have h2 := Took.trans (m := r) Ht.out (by rw [Hgt.out]; exact Ht1.out)
      refine ⟨ret_str ?_, by rw [Hrr.out]; exact h2⟩
      rw [pathP, Hrr.out, ← Hl.out]
      exact extract_to _ _
set_option linter.unusedVariables false
attribute [go_sem] size_Str toList_Str extract_Str0 extract_StrN get_Str
set_option maxHeartbeats 400000 in
theorem isDigit_w (n : Int) (w : World) : Calls Tryz.prog 253 #[.int .u8 n] w fun e w' => e = .returned (.bool (digB n)) ∧ w = w' := by
  by_cases h1 : 48 ≤ n ∧ n ≤ 57
  · have H : Hid (digB n = true) := Lib.hid (by unfold digB; simp [h1])
    obtain ⟨a, b⟩ := h1
    go_enter Tryz.func253, Tryz.ntmps253
    go_wp2
    go_ret
    exact ⟨ret_bool H.out.symm, rfl⟩
  · by_cases h2 : 97 ≤ n
    · have h3 : 57 < n := by omega
      have h4 : 48 ≤ n := by omega
      have H : Hid (digB n = decide (n ≤ 102)) := Lib.hid (by unfold digB; simp [h2]; omega)
      clear h1
      by_cases h5 : n ≤ 102
      all_goals
        go_enter Tryz.func253, Tryz.ntmps253
        go_wp2
        go_ret
        exact ⟨ret_bool (by rw [H.out]; first | (simp; omega) | simp [h5]), rfl⟩
    · have H : Hid (digB n = false) := Lib.hid (by unfold digB; simp; omega)
      by_cases h5 : 48 ≤ n
      · have h6 : 57 < n := by omega
        clear h1
        go_enter Tryz.func253, Tryz.ntmps253
        go_wp2
        go_ret
        exact ⟨ret_bool (by rw [H.out]; simp; omega), rfl⟩
      · clear h1
        go_enter Tryz.func253, Tryz.ntmps253
        go_wp2
        go_ret
        exact ⟨ret_bool H.out.symm, rfl⟩
set_option maxHeartbeats 400000 in
theorem take_yes (b : Nat) (T : TypeId) (cs : Array Value) (s : ByteArray) (n : Int) (w : World) (hs : s.size ≤ maxLen) (hb : Blk w b T cs) (h0 : cs[0]? = some (.string s))
    (hn0 : 0 ≤ n) (hn : n ≤ s.size) :
    Calls Tryz.prog 241 #[.pointer (some ⟨b, 0, none⟩), .int .i64 n] w fun e w' => e = .returned (.tuple #[.string (Str (s.toList.take n.toNat)), .bool true]) ∧ Took b T cs (s.toList.drop n.toNat) w w' := by
  have hc : w.cell? ⟨b, 0, none⟩ = some (.string s) := by rw [hb.cell, h0]
  have hf := hb.free 0
  clear h0
  unfold maxLen at hs
  obtain ⟨k, rfl⟩ := Int.eq_ofNat_of_zero_le hn0
  clear hn0
  rw [Int.toNat_natCast]
  have hk : k ≤ s.size := by omega
  go_enter Tryz.func241, Tryz.ntmps241
  go_wp2
  go_ret2
  refine ⟨?_, Took.set hb _ (extract_from s k)⟩
  show Ending.returned (.tuple #[.string (s.extract 0 k), .bool true]) = _
  rw [extract_to]
set_option maxHeartbeats 400000 in
theorem take_no (b : Nat) (T : TypeId) (cs : Array Value) (s : ByteArray) (n : Int) (w : World) (hs : s.size ≤ maxLen) (hb : Blk w b T cs) (h0 : cs[0]? = some (.string s))
    (hn : (s.size : Int) < n) :
    Calls Tryz.prog 241 #[.pointer (some ⟨b, 0, none⟩), .int .i64 n] w fun e w' => e = .returned (.tuple #[.string (Str []), .bool false]) ∧ w = w' := by
  have hc : w.cell? ⟨b, 0, none⟩ = some (.string s) := by rw [hb.cell, h0]
  have hf := hb.free 0
  clear h0
  unfold maxLen at hs
  go_enter Tryz.func241, Tryz.ntmps241
  go_wp2
  go_ret2
  exact ⟨rfl, rfl⟩
theorem bodyB_len {l : Bs} (h : ¬ l.length = 10) : bodyB l = false := by unfold bodyB; simp [h]
theorem bodyB_all {l : Bs} (h : l.length = 10) (h0 : l[0]? = some 5) (h9 : l[9]? = some 47) :
    bodyB l = (((l.drop 1).take 8).all (fun c => digB c.toNat) && (l[1]?.any fun c => decide (c.toNat ≤ 55))) := by unfold bodyB; rw [h0, h9, decide_eq_true h]; rfl
theorem bodyB_no0 {l : Bs} (h0 : ¬ l[0]? = some 5) : bodyB l = false := by unfold bodyB; simp [h0]
theorem bodyB_no9 {l : Bs} (h0 : ¬ l[9]? = some 47) : bodyB l = false := by unfold bodyB; simp [h0]
theorem u8_eq {c : UInt8} {n : Nat} (hn : n < 256) : (c.toNat : Int) = (n : Int) ↔ c = n.toUInt8 := by
  constructor
  · intro h
    apply UInt8.toNat_inj.1
    have : c.toNat = n := by omega
    rw [this]; simp; omega
  · intro h; rw [h]; simp; omega
set_option maxHeartbeats 1000000 in
theorem isBody_w (s : ByteArray) (w : World) (hs : s.size ≤ maxLen) :
    Calls Tryz.prog 240 #[.string s] w fun e w' => e = .returned (.bool (bodyB s.toList)) ∧ w = w' := by
  unfold maxLen at hs
  have Hz := Lib.hid (size_len s)
  by_cases hz : s.size = 10
  · have hzb : ((s.size : Int) != 10) = false := by rw [hz]; rfl
    have p0 : 0 < s.size := by omega
    have p1 : 1 < s.size := by omega
    have p9 : 9 < s.size := by omega
    have h0 := get_toList s 0 p0
    have h9 := get_toList s 9 p9
    have h1 := get_toList s 1 p1
    have Hz10 := Lib.hid hz
    clear hz
    by_cases e0 : (s[0].toNat : Int) = 5
    · have b0 : ((s[0].toNat : Int) != 5) = false := by rw [e0]; rfl
      have e0' : s.toList[0]? = some 5 := by rw [h0]; rw [(u8_eq (n := 5) (by omega)).1 e0]; rfl
      clear e0
      by_cases e9 : (s[9].toNat : Int) = 47
      · have b9 : ((s[9].toNat : Int) != 47) = false := by rw [e9]; rfl
        have e9' : s.toList[9]? = some 47 := by rw [h9]; rw [(u8_eq (n := 47) (by omega)).1 e9]; rfl
        have HB := Lib.hid (bodyB_all (by rw [← size_len]; exact Hz10.out) e0' e9')
        have H1 := Lib.hid h1
        clear e9 e0' e9' h0 h1 h9
        go_enter Tryz.func240, Tryz.ntmps240
        go_wp2
        go_loop [3] (fun i => ∃ k : Nat, k ≤ 8 ∧ i = .int .i64 (k + 1 : Nat) ∧ Hid (((s.toList.drop 1).take k).all (fun c => digB c.toNat) = true)) (fun i => 9 - (intOf i).toNat)
        case atStart => exact ⟨0, by omega, rfl, Lib.hid rfl⟩
        case round =>
          obtain ⟨k, hk, rfl, hall⟩ := hrel
          by_cases hlt : k < 8
          · have pk : k + 1 < s.size := by have := Hz10.out; omega
            have hg := Lib.hid (get_toList s (k + 1) pk)
            by_cases hd : digB s[k + 1].toNat = true
            · have Hd := Lib.hid hd
              clear hd
              go_wp2_with (go_at_call 253; refine (isDigit_w _ _).mono ?_; rw [Hd.out]; rintro e w' ⟨rfl, rfl⟩)
              go_round
              case rel => exact ⟨k + 1, by omega, by go_num, Lib.hid (by
                rw [List.take_add_one, List.all_append, hall.out, List.getElem?_drop, Nat.add_comm 1 k, hg.out]; simp [Hd.out])⟩
              case measure => simp [intOf]; omega
            · have Hd : Hid (digB s[k + 1].toNat = false) := Lib.hid (by simpa using hd)
              clear hd
              go_wp2_with (go_at_call 253; refine (isDigit_w _ _).mono ?_; rw [Hd.out]; rintro e w' ⟨rfl, rfl⟩)
              go_ret
              refine ⟨ret_bool ?_, rfl⟩
              rw [HB.out]
              have : ((s.toList.drop 1).take 8).all (fun c => digB c.toNat) = false := by
                rw [List.all_eq_false]
                refine ⟨s[k + 1], ?_, by simp [Hd.out]⟩
                apply List.mem_of_getElem? (i := k)
                rw [List.getElem?_take, if_pos hlt, List.getElem?_drop, Nat.add_comm 1 k, hg.out]
              rw [this]; rfl
          · obtain rfl : k = 8 := by omega
            go_wp2
            go_ret
            refine ⟨ret_bool ?_, rfl⟩
            rw [HB.out, hall.out, H1.out]
            simp; omega
      · have b9 : ((s[9].toNat : Int) != 47) = true := by simpa using e9
        have HB := Lib.hid (bodyB_no9 (l := s.toList) (by rw [h9]; intro h; apply e9; simp only [Option.some.injEq] at h; rw [h]; rfl))
        clear e9 h0 h1 h9
        go_enter Tryz.func240, Tryz.ntmps240
        go_wp2
        go_ret
        exact ⟨ret_bool HB.out.symm, rfl⟩
    · have b0 : ((s[0].toNat : Int) != 5) = true := by simpa using e0
      have HB := Lib.hid (bodyB_no0 (l := s.toList) (by rw [h0]; intro h; apply e0; simp only [Option.some.injEq] at h; rw [h]; rfl))
      clear e0 h0 h1 h9
      go_enter Tryz.func240, Tryz.ntmps240
      go_wp2
      go_ret
      exact ⟨ret_bool HB.out.symm, rfl⟩
  · have hzb : ((s.size : Int) != 10) = true := by simp; omega
    have HB := Lib.hid (bodyB_len (l := s.toList) (by rw [← Hz.out]; exact hz))
    clear hz
    go_enter Tryz.func240, Tryz.ntmps240
    go_wp2
    go_ret
    exact ⟨ret_bool HB.out.symm, rfl⟩
theorem ownP_of {l : Bs} (h : 10 ≤ l.length) (hB : bodyB (l.take 10) = true) : ownP l = (l.take 10, l.drop 10) := by unfold ownP; rw [if_pos ⟨h, hB⟩]
theorem ownP_no {l : Bs} (h : ¬ (10 ≤ l.length ∧ bodyB (l.take 10) = true)) : ownP l = (pathP l, restP l) := by unfold ownP; rw [if_neg h]
set_option maxHeartbeats 400000 in
theorem owner_w (b : Nat) (T : TypeId) (cs : Array Value) (s : ByteArray) (w : World) (hs : s.size ≤ maxLen) (hb : Blk w b T cs) (h0 : cs[0]? = some (.string s)) :
    Calls Tryz.prog 224 #[.pointer (some ⟨b, 0, none⟩)] w fun e w' => e = .returned (.string (Str (ownP s.toList).1)) ∧ Took b T cs (ownP s.toList).2 w w' := by
  have hc : w.cell? ⟨b, 0, none⟩ = some (.string s) := by rw [hb.cell, h0]
  have Hs := Lib.hid hs
  have H0 := Lib.hid h0
  clear h0
  unfold maxLen at hs
  by_cases hz : s.size < 10
  · have HO := Lib.hid (ownP_no (l := s.toList) (by rw [← size_len]; omega))
    go_enter Tryz.func224, Tryz.ntmps224
    go_wp2_with (go_at_call 223; refine (path_w b T cs s _ Hs.out hb H0.out).mono ?_; rintro e w' ⟨rfl, ht⟩)
    go_ret
    rw [HO.out]
    exact ⟨rfl, ht⟩
  · have hz' : 10 ≤ s.size := by omega
    have Hx : Hid ((s.extract 0 10).toList = s.toList.take 10) := Lib.hid (by rw [extract_to, toList_Str])
    by_cases hB : bodyB (s.toList.take 10) = true
    · have HO := Lib.hid (ownP_of (l := s.toList) (by rw [← size_len]; omega) hB)
      have HB := Lib.hid hB
      clear hB hz
      go_enter Tryz.func224, Tryz.ntmps224
      go_wp2_with (first
        | (go_at_call 240; refine (isBody_w _ _ (by simp; unfold maxLen; omega)).mono ?_; rw [Hx.out, HB.out]; rintro e w' ⟨rfl, rfl⟩)
        | (go_at_call 241; refine (take_yes b T cs s 10 _ Hs.out hb H0.out (by omega) (by omega)).mono ?_; rintro e w' ⟨rfl, ht⟩))
      go_ret
      rw [HO.out]
      exact ⟨rfl, ht⟩
    · have HO := Lib.hid (ownP_no (l := s.toList) (fun h => hB h.2))
      have HB : Hid (bodyB (s.toList.take 10) = false) := Lib.hid (by simpa using hB)
      clear hB hz
      go_enter Tryz.func224, Tryz.ntmps224
      go_wp2_with (first
        | (go_at_call 240; refine (isBody_w _ _ (by simp; unfold maxLen; omega)).mono ?_; rw [Hx.out, HB.out]; rintro e w' ⟨rfl, rfl⟩)
        | (go_at_call 223; refine (path_w b T cs s _ Hs.out hb H0.out).mono ?_; rintro e w' ⟨rfl, ht⟩))
      go_ret
      rw [HO.out]
      exact ⟨rfl, ht⟩
/-- The cells of the parser of keys. -/
def PSt.cells (s : PSt) : Array Value := #[.string (Str s.rest), .string (Str s.path), .int .i64 s.tag, .int .i64 s.n, .string (Str s.name)]
def PAt (b : Nat) (s : PSt) (w : World) : Prop := Blk w b 233 s.cells
/-- What a call leaves. -/
def PDone (b : Nat) (f : Bool × PSt) (w : World) (e : Ending) (w' : World) : Prop := e = .returned (.bool f.1) ∧ PAt b f.2 w' ∧ Only b w w'
set_option maxHeartbeats 1000000 in
theorem block_w (b : Nat) (s : PSt) (w : World) (hs : s.rest.length ≤ maxLen) (hb : PAt b s w) :
    Calls Tryz.prog 242 #[.pointer (some ⟨b, 0, none⟩)] w (PDone b (blockS s) w) := by
  unfold PAt at hb
  obtain ⟨r, p, t, n, m⟩ := s
  simp only at hs
  unfold PSt.cells at hb
  simp only at hb
  cases r with
  | nil =>
    have Hb := Lib.hid hb
    go_enter Tryz.func242, Tryz.ntmps242
    go_wp2_with (go_at_call 241; refine (take_no b _ _ (Str []) 2 _ (by rw [size_Str]; exact hs) hb rfl (by rw [size_Str]; simp)).mono ?_; rintro e w' ⟨rfl, rfl⟩)
    go_ret
    exact ⟨rfl, Hb.out, Only.refl _ _⟩
  | cons x r =>
    cases r with
    | nil =>
      have Hb := Lib.hid hb
      go_enter Tryz.func242, Tryz.ntmps242
      go_wp2_with (go_at_call 241; refine (take_no b _ _ (Str [x]) 2 _ (by rw [size_Str]; exact hs) hb rfl (by rw [size_Str]; simp)).mono ?_; rintro e w' ⟨rfl, rfl⟩)
      go_ret
      exact ⟨rfl, Hb.out, Only.refl _ _⟩
    | cons y r =>
      have hx : x.toNat < 256 := x.toNat_lt
      have hy : y.toNat < 256 := y.toNat_lt
      go_enter Tryz.func242, Tryz.ntmps242
      go_wp2_with (go_at_call 241; refine (take_yes b _ _ (Str (x :: y :: r)) 2 _ (by rw [size_Str]; exact hs) hb rfl (by omega) (by rw [size_Str]; simp; omega)).mono ?_; rintro e w1 ⟨rfl, ht⟩)
      have ht' : Blk w1 b 233 #[.string (Str r), .string (Str p), .int .i64 t, .int .i64 n, .string (Str m)] ∧ Only b w w1 := by
        have := ht; unfold Took at this; rw [toList_Str] at this; exact this
      clear ht
      have c3 := ht'.1.cell 3
      have f3 := ht'.1.free 3
      simp at c3
      have q0 : (Str (List.take (Int.toNat 2) (Str (x :: y :: r)).toList)) = Str [x, y] := by rw [toList_Str]; rfl
      have Hb := Lib.hid hb
      have Ht := Lib.hid ht'
      clear hb ht' q0
      go_region
      go_wp2
      go_ret
      have e : bits .or .i64 ((x.toNat : Int) * 256) y.toNat = (x.toNat : Int) * 256 + y.toNat :=
        bits_join .i64 31 (by decide) (fun n h1 h2 => by rw [IntKind.wrap_i64]; omega) 8 _ _ (by omega) (by omega) (by omega) (by omega) (by omega) (by omega)
      rw [e]
      exact ⟨rfl, Ht.out.1.setCell 3 _, (Ht.out.2.trans (Only.setCell _ _ _ _)).drew⟩
set_option maxHeartbeats 1000000 in
theorem attr_w (b : Nat) (s : PSt) (w : World) (hs : s.rest.length ≤ maxLen) (hb : PAt b s w) :
    Calls Tryz.prog 243 #[.pointer (some ⟨b, 0, none⟩)] w (PDone b (attrS s) w) := by
  unfold PAt at hb
  obtain ⟨r, p, t, n, m⟩ := s
  simp only at hs
  unfold PSt.cells at hb
  simp only at hb
  have c0 : w.cell? ⟨b, 0, none⟩ = some (.string (Str r)) := hb.cell 0
  have f0 := hb.free 0
  have Hb := Lib.hid hb
  have Hs : Hid ((Str r).size ≤ maxLen) := Lib.hid (by rw [size_Str]; exact hs)
  clear hb
  have Htk : ∀ wx, Blk wx b 233 #[.string (Str r), .string (Str p), .int .i64 t, .int .i64 n, .string (Str m)] → Calls Tryz.prog 241 #[.pointer (some ⟨b, 0, none⟩), .int .i64 r.length] wx fun e w' => e = .returned (.tuple #[.string (Str r), .bool true]) ∧ Blk w' b 233 #[.string (Str []), .string (Str p), .int .i64 t, .int .i64 n, .string (Str m)] ∧ Only b wx w' := fun wx hbx =>
    (take_yes b _ _ (Str r) r.length wx Hs.out hbx rfl (by omega) (by rw [size_Str]; omega)).mono (fun e w1 ⟨he, ht⟩ => by
      rw [toList_Str, Int.toNat_natCast, List.take_length] at he
      refine ⟨he, ?_⟩
      unfold Took at ht; rw [toList_Str, Int.toNat_natCast, List.drop_length] at ht; exact ht)
  have Htk' := Lib.hid Htk
  clear Htk
  go_enter Tryz.func243, Tryz.ntmps243
  go_wp2
  go_region_with (go_at_call 241; refine (Htk'.out _ (by exact Hb.out)).mono ?_; rintro e w1 ⟨rfl, ht⟩; have c4 := ht.1.cell 4; have f4 := ht.1.free 4; simp at c4; have Ht := Lib.hid ht; clear ht)
  go_wp2_with (go_at_call 252; refine (isName_w (Str r) _ Hs.out).mono ?_; rintro e w' ⟨rfl, rfl⟩)
  go_ret
  exact ⟨rfl, Ht.out.1.setCell 4 _, ((Only.refl b w).drew.trans Ht.out.2).trans (Only.setCell _ _ _ _)⟩
set_option maxHeartbeats 1000000 in
theorem tagged_w (b : Nat) (s : PSt) (w : World) (hs : s.rest.length ≤ maxLen) (hb : PAt b s w) :
    Calls Tryz.prog 225 #[.pointer (some ⟨b, 0, none⟩)] w (PDone b (taggedS s) w) := by
  have HB := Lib.hid hb
  unfold PAt at hb
  obtain ⟨r, p, t, n, m⟩ := s
  simp only at hs
  unfold PSt.cells at hb
  simp only at hb
  cases r with
  | nil =>
    have Hb := Lib.hid hb
    go_enter Tryz.func225, Tryz.ntmps225
    go_wp2_with (go_at_call 241; refine (take_no b _ _ (Str []) 1 _ (by rw [size_Str]; exact hs) hb rfl (by rw [size_Str]; simp)).mono ?_; rintro e w' ⟨rfl, rfl⟩)
    go_ret
    exact ⟨rfl, Hb.out, Only.refl _ _⟩
  | cons x r =>
    have hx : x.toNat < 256 := x.toNat_lt
    have hx0 : (x.toNat : Int) ≤ 255 := by omega
    have hs' : r.length ≤ maxLen := by simp only [List.length_cons] at hs; omega
    have Htk : ∀ wx, Blk wx b 233 #[.string (Str (x :: r)), .string (Str p), .int .i64 t, .int .i64 n, .string (Str m)] → Calls Tryz.prog 241 #[.pointer (some ⟨b, 0, none⟩), .int .i64 1] wx fun e w' => e = .returned (.tuple #[.string (Str [x]), .bool true]) ∧ Blk w' b 233 #[.string (Str r), .string (Str p), .int .i64 t, .int .i64 n, .string (Str m)] ∧ Only b wx w' := fun wx hbx =>
      (take_yes b _ _ (Str (x :: r)) 1 wx (by rw [size_Str]; exact hs) hbx rfl (by omega) (by rw [size_Str]; simp; omega)).mono (fun e w1 ⟨he, ht⟩ => by
        rw [toList_Str] at he
        refine ⟨he, ?_⟩
        unfold Took at ht; rw [toList_Str] at ht; exact ht)
    have Htk' := Lib.hid Htk
    have Hb := Lib.hid hb
    clear Htk hb
    by_cases e1 : (x.toNat : Int) = 1
    · have H1 : Hid (taggedS ⟨x :: r, p, t, n, m⟩ = (true, ⟨r, p, x.toNat, n, m⟩)) := Lib.hid (by simp only [taggedS]; rw [if_pos e1])
      have d1 : ((x.toNat : Int) == 1) = true := by rw [e1]; rfl
      clear e1
      go_enter Tryz.func225, Tryz.ntmps225
      go_wp2_with (go_at_call 241; refine (Htk'.out _ (by exact Hb.out)).mono ?_; rintro e w1 ⟨rfl, ht⟩; have c2 := ht.1.cell 2; have f2 := ht.1.free 2; simp at c2; have Ht := Lib.hid ht; clear ht)
      go_ret
      rw [H1.out]
      exact ⟨rfl, Ht.out.1.setCell 2 _, Ht.out.2.trans (Only.setCell _ _ _ _)⟩
    · have d1 : ((x.toNat : Int) == 1) = false := by simpa using e1
      by_cases e2 : (x.toNat : Int) = 2
      · have H1 : Hid (taggedS ⟨x :: r, p, t, n, m⟩ = blockS ⟨r, p, x.toNat, n, m⟩) := Lib.hid (by simp only [taggedS]; rw [if_neg e1, if_pos e2])
        have d2 : ((x.toNat : Int) == 2) = true := by rw [e2]; rfl
        clear e1 e2
        go_enter Tryz.func225, Tryz.ntmps225
        go_wp2_with (first
          | (go_at_call 241; refine (Htk'.out _ (by exact Hb.out)).mono ?_; rintro e w1 ⟨rfl, ht⟩; have c2 := ht.1.cell 2; have f2 := ht.1.free 2; simp at c2; have Ht := Lib.hid ht; clear ht)
          | (go_at_call 242; refine (block_w b ⟨r, p, x.toNat, n, m⟩ _ (by exact hs') (by exact Blk.setCell (Hid.out ‹Hid (Blk _ _ _ _ ∧ Only _ _ _)›).1 2 _)).mono ?_; rintro e w2 ⟨rfl, ht2, ho2⟩; have Ht2 := Lib.hid ht2; have Ho2 := Lib.hid ho2; clear ht2 ho2))
        go_ret
        rw [H1.out]
        exact ⟨rfl, Ht2.out, (Ht.out.2.trans (Only.setCell _ _ _ _)).trans Ho2.out⟩
      · have d2 : ((x.toNat : Int) == 2) = false := by simpa using e2
        by_cases e3 : (x.toNat : Int) = 3
        · have H1 : Hid (taggedS ⟨x :: r, p, t, n, m⟩ = attrS ⟨r, p, x.toNat, n, m⟩) := Lib.hid (by simp only [taggedS]; rw [if_neg e1, if_neg e2, if_pos e3])
          have d3 : ((x.toNat : Int) == 3) = true := by rw [e3]; rfl
          clear e1 e2 e3
          go_enter Tryz.func225, Tryz.ntmps225
          go_wp2_with (first
            | (go_at_call 241; refine (Htk'.out _ (by exact Hb.out)).mono ?_; rintro e w1 ⟨rfl, ht⟩; have c2 := ht.1.cell 2; have f2 := ht.1.free 2; simp at c2; have Ht := Lib.hid ht; clear ht)
            | (go_at_call 243; refine (attr_w b ⟨r, p, x.toNat, n, m⟩ _ (by exact hs') (by exact Blk.setCell (Hid.out ‹Hid (Blk _ _ _ _ ∧ Only _ _ _)›).1 2 _)).mono ?_; rintro e w2 ⟨rfl, ht2, ho2⟩; have Ht2 := Lib.hid ht2; have Ho2 := Lib.hid ho2; clear ht2 ho2))
          go_ret
          rw [H1.out]
          exact ⟨rfl, Ht2.out, (Ht.out.2.trans (Only.setCell _ _ _ _)).trans Ho2.out⟩
        · have d3 : ((x.toNat : Int) == 3) = false := by simpa using e3
          have H1 : Hid (taggedS ⟨x :: r, p, t, n, m⟩ = (false, ⟨r, p, x.toNat, n, m⟩)) := Lib.hid (by simp only [taggedS]; rw [if_neg e1, if_neg e2, if_neg e3])
          clear e1 e2 e3
          go_enter Tryz.func225, Tryz.ntmps225
          go_wp2_with (go_at_call 241; refine (Htk'.out _ (by exact Hb.out)).mono ?_; rintro e w1 ⟨rfl, ht⟩; have c2 := ht.1.cell 2; have f2 := ht.1.free 2; simp at c2; have Ht := Lib.hid ht; clear ht)
          go_ret
          rw [H1.out]
          exact ⟨rfl, Ht.out.1.setCell 2 _, Ht.out.2.trans (Only.setCell _ _ _ _)⟩
set_option maxHeartbeats 1000000 in
theorem key_w (b : Nat) (s : PSt) (w : World) (hs : s.rest.length ≤ maxLen) (hb : PAt b s w) :
    Calls Tryz.prog 203 #[.pointer (some ⟨b, 0, none⟩)] w (PDone b (keyS s) w) := by
  unfold PAt at hb
  obtain ⟨r, p, t, n, m⟩ := s
  simp only at hs
  unfold PSt.cells at hb
  simp only at hb
  have hm := mark_w b 233 _ (Str r) 6 w (by rw [size_Str]; exact hs) hb rfl
  rw [toList_Str] at hm
  cases hk : markS 6 r with
  | some r' =>
    rw [hk] at hm
    have hr' : r'.length ≤ maxLen := by
      cases r with
      | nil => simp [markS] at hk
      | cons x r => simp only [markS] at hk; split at hk <;> simp at hk; subst hk; simp only [List.length_cons] at hs; omega
    have hrp : (restP r').length ≤ maxLen := by have := restP_length r'; omega
    have H1 : Hid (keyS ⟨r, p, t, n, m⟩ = ((markS 1 (restP r')).isSome, ⟨(markS 1 (restP r')).getD (restP r'), pathP r', 4, 0, []⟩)) := Lib.hid (by unfold keyS; rw [hk])
    have Hm := Lib.hid hm
    have Hb := Lib.hid hb
    clear hm hb hk
    go_enter Tryz.func203, Tryz.ntmps203
    go_wp2_with (first
      | (go_at_call_of 222 (Value.int IntKind.u8 6); refine Hm.out.mono ?_; rintro e w1 ⟨rfl, ht⟩; have Ht : Hid (Blk w1 b 233 #[.string (Str r'), .string (Str p), .int .i64 t, .int .i64 n, .string (Str m)] ∧ Only b w w1) := Lib.hid ht; clear ht)
      | (go_at_call 223; refine (path_w b 233 _ (Str r') _ (by rw [size_Str]; exact hr') (by exact (Hid.out ‹Hid (Blk _ _ _ _ ∧ Only _ _ _)›).1) rfl).mono ?_; rintro e w2 ⟨rfl, ht2⟩; have Ht2 : Hid (Blk w2 b 233 #[.string (Str (restP r')), .string (Str p), .int .i64 t, .int .i64 n, .string (Str m)] ∧ Only b w1 w2) := Lib.hid (by unfold Took at ht2; rw [toList_Str] at ht2; exact ht2); clear ht2; have c1 := Ht2.out.1.cell 1; have c2 := Ht2.out.1.cell 2; have c3 := Ht2.out.1.cell 3; have c4 := Ht2.out.1.cell 4; have f1 := Ht2.out.1.free 1; have f2 := Ht2.out.1.free 2; have f3 := Ht2.out.1.free 3; have f4 := Ht2.out.1.free 4; simp at c1 c2 c3 c4))
    refine (mark_w b 233 #[.string (Str (restP r')), .string (Str (pathP r')), .int .i64 4, .int .i64 0, .string (Str [])] (Str (restP r')) 1 _ (by rw [size_Str]; exact hrp) (by exact (((Ht2.out.1.setCell 1 _).setCell 2 _).setCell 3 _).setCell 4 _) rfl).mono ?_
    rintro e w3 ⟨rfl, ht3⟩
    have Ht3 := Lib.hid ht3
    clear ht3
    go_wp2
    go_ret
    rw [H1.out]
    have h3 := Ht3.out
    rw [toList_Str] at h3
    refine ⟨rfl, h3.1, (Ht.out.2.trans Ht2.out.2).trans (Only.trans ?_ h3.2)⟩
    exact (((Only.setCell _ _ _ _).trans (Only.setCell _ _ _ _)).trans (Only.setCell _ _ _ _)).trans (Only.setCell _ _ _ _)
  | none =>
    rw [hk] at hm
    have hol : (ownP r).2.length ≤ maxLen := by
      unfold ownP; split
      · simp; omega
      · have := restP_length r; simp; omega
    have H1 : Hid (keyS ⟨r, p, t, n, m⟩ = taggedS ⟨(ownP r).2, (ownP r).1, t, n, m⟩) := Lib.hid (by unfold keyS; rw [hk])
    have Hm := Lib.hid hm
    have Hb := Lib.hid hb
    clear hm hb hk
    go_enter Tryz.func203, Tryz.ntmps203
    go_wp2_with (first
      | (go_at_call 222; refine Hm.out.mono ?_; rintro e w1 ⟨rfl, ht⟩; have Ht : Hid (Blk w1 b 233 #[.string (Str r), .string (Str p), .int .i64 t, .int .i64 n, .string (Str m)] ∧ Only b w w1) := Lib.hid ht; clear ht)
      | (go_at_call 224; refine (owner_w b 233 _ (Str r) _ (by rw [size_Str]; exact hs) (by exact (Hid.out ‹Hid (Blk _ _ _ _ ∧ Only _ _ _)›).1) rfl).mono ?_; rintro e w2 ⟨rfl, ht2⟩; have Ht2 : Hid (Blk w2 b 233 #[.string (Str (ownP r).2), .string (Str p), .int .i64 t, .int .i64 n, .string (Str m)] ∧ Only b w1 w2) := Lib.hid (by unfold Took at ht2; rw [toList_Str] at ht2; exact ht2); clear ht2; have c1 := Ht2.out.1.cell 1; have f1 := Ht2.out.1.free 1; simp at c1)
      | (go_at_call 225; refine (tagged_w b ⟨(ownP r).2, (ownP r).1, t, n, m⟩ _ (by exact hol) (by exact Ht2.out.1.setCell 1 _)).mono ?_; rintro e w3 ⟨rfl, ht3, ho3⟩; have Ht3 := Lib.hid ht3; have Ho3 := Lib.hid ho3; clear ht3 ho3))
    go_ret
    rw [H1.out]
    exact ⟨rfl, Ht3.out, ((Ht.out.2.trans Ht2.out.2).trans (Only.setCell _ _ _ _)).trans Ho3.out⟩
/-- The result of Place, as a value. -/
def placeV (p : Bs) (t n : Int) (m : Bs) : Value := .agg #[.string (Str p), .int .i64 t, .int .i64 n, .string (Str m)]
def placeR (k : Bs) : Value :=
  match placeS k with
  | some s => .tuple #[placeV s.path s.tag s.n s.name, .int .i64 0]
  | none => .tuple #[placeV [] 0 0 [], .int .i64 12]
set_option maxHeartbeats 1000000 in
theorem place_w (s : ByteArray) (w : World) (hs : s.size ≤ maxLen) :
    Calls Tryz.prog 160 #[.string s] w fun e w' => e = .returned (placeR s.toList) ∧ Below w.heap.size w w' := by
  obtain ⟨l, rfl⟩ := Str_ex s
  rw [size_Str] at hs
  rw [toList_Str]
  have hk := key_w (w.heap.size + 1) ⟨l, [], 0, 0, []⟩
  generalize hg : keyS ⟨l, [], 0, 0, []⟩ = f at hk
  obtain ⟨g, r, p, t, n, m⟩ := f
  have H1 : Hid (placeS l = if g = true ∧ r = [] then some ⟨r, p, t, n, m⟩ else none) := Lib.hid (by unfold placeS; rw [hg])
  have Hk := Lib.hid hk
  clear hk hg
  go_enter Tryz.func160, Tryz.ntmps160
  go_wp2_with fail
  refine (Hk.out _ hs (by exact (Blk.new' (w.alloc (.cells #[.string (Str []), .int .i64 0, .int .i64 0, .string (Str [])] 195)) 233 (PSt.cells ⟨l, [], 0, 0, []⟩) (by simp)))).mono ?_
  rintro e w1 ⟨rfl, ht, ho⟩
  have hb := Blk.only (((Blk.new w 195 #[.string (Str []), .int .i64 0, .int .i64 0, .string (Str [])])).alloc (.cells (PSt.cells ⟨l, [], 0, 0, []⟩) 233)) (by exact ho) (by omega)
  have hB : Below w.heap.size w w1 := (((Below.refl _ w).alloc (Nat.le_refl _) _).alloc (by simp) _).trans (ho.below (by omega))
  unfold PAt PSt.cells at ht
  have c0 := ht.cell 0
  have c1 := ht.cell 1
  have c2 := ht.cell 2
  have c3 := ht.cell 3
  have c4 := ht.cell 4
  have d0 := hb.cell 0
  have d1 := hb.cell 1
  have d2 := hb.cell 2
  have d3 := hb.cell 3
  have f0 := hb.free 0
  have f1 := hb.free 1
  have f2 := hb.free 2
  have f3 := hb.free 3
  simp at c0 c1 c2 c3 c4 d0 d1 d2 d3
  have Ht := Lib.hid ht
  have Ho := Lib.hid ho
  have Hb := Lib.hid hb
  have HB := Lib.hid hB
  clear ht ho hb hB
  have hbelow : ∀ a0 a1 a2 a3 : Value, Below w.heap.size w ((((w1.setCell ⟨w.heap.size, 0, none⟩ a0).setCell ⟨w.heap.size, 1, none⟩ a1).setCell ⟨w.heap.size, 2, none⟩ a2).setCell ⟨w.heap.size, 3, none⟩ a3) := fun a0 a1 a2 a3 =>
    (((HB.out.setCell (Nat.le_refl _) a0).setCell (Nat.le_refl _) a1).setCell (Nat.le_refl _) a2).setCell (Nat.le_refl _) a3
  have Hbelow := Lib.hid hbelow
  clear hbelow
  by_cases hgr : g = true ∧ r = []
  · have H2 : Hid (placeR l = .tuple #[placeV p t n m, .int .i64 0]) := Lib.hid (by unfold placeR; rw [H1.out, if_pos hgr])
    obtain ⟨rfl, rfl⟩ := hgr
    go_wp2
    exact bodyPost_ret (v := .tuple #[placeV p t n m, .int .i64 0]) (by simp [results, Tryz.results160, go_sem, placeV, d0, d1, d2, d3]) rfl ⟨by rw [H2.out], Hbelow.out _ _ _ _⟩
  · have H2 : Hid (placeR l = .tuple #[placeV [] 0 0 [], .int .i64 12]) := Lib.hid (by unfold placeR; rw [H1.out, if_neg hgr])
    cases g with
    | false =>
      go_wp2
      exact bodyPost_ret (v := .tuple #[placeV [] 0 0 [], .int .i64 12]) (by simp [results, Tryz.results160, go_sem, placeV, d0, d1, d2, d3]; rfl) rfl ⟨by rw [H2.out], Hbelow.out _ _ _ _⟩
    | true =>
      have hr : r.isEmpty = false := by simp at hgr; simp [hgr]
      clear hgr
      go_wp2
      exact bodyPost_ret (v := .tuple #[placeV [] 0 0 [], .int .i64 12]) (by simp [results, Tryz.results160, go_sem, placeV, d0, d1, d2, d3]; rfl) rfl ⟨by rw [H2.out], Hbelow.out _ _ _ _⟩
theorem Took.below {b B : Nat} {T : TypeId} {cs : Array Value} {l : Bs} {w w' : World} (h : Took b T cs l w w') (hB : B ≤ b) : Below B w w' := h.2.below hB
set_option maxHeartbeats 400000 in
theorem valid_w (s : ByteArray) (w : World) (hs : s.size ≤ maxLen) :
    Calls Tryz.prog 219 #[.string s] w fun e w' => e = .returned (.bool (validB s.toList)) ∧ Below w.heap.size w w' := by
  have Hs := Lib.hid hs
  unfold maxLen at hs
  go_enter Tryz.func219, Tryz.ntmps219
  go_wp2_with fail
  refine (path_w w.heap.size 231 #[.string s] s _ Hs.out (by exact Blk.new _ _ _) rfl).mono ?_
  rintro e w1 ⟨rfl, ht⟩
  have c0 := ht.1.cell 0
  have hB : Below w.heap.size w w1 := ((Below.refl _ w).alloc (Nat.le_refl _) _).trans (ht.below (Nat.le_refl _))
  simp at c0
  have HB := Lib.hid hB
  clear hB ht
  have Hv : Hid (validB s.toList = (restP s.toList).isEmpty) := Lib.hid (by unfold validB; cases restP s.toList <;> rfl)
  generalize restP s.toList = r at *
  go_wp2
  go_ret
  exact ⟨ret_bool (by rw [Hv.out]), HB.out⟩
theorem Str_append (a b : Bs) : Str a ++ Str b = Str (a ++ b) := by
  rw [← Str_toList (Str a ++ Str b)]
  congr 1
  rw [Lib.toList_data]; simp [Str]
theorem Str_lit (a b : Bs) : Str a ++ (⟨b.toArray⟩ : ByteArray) = Str (a ++ b) := Str_append a b
theorem lit_Str (a b : Bs) : (⟨b.toArray⟩ : ByteArray) ++ Str a = Str (b ++ a) := Str_append b a
attribute [go_sem] Str_append Str_lit lit_Str
theorem eqf {a b : Int} (h : ¬ a = b) : (a == b) = false := by simpa using h
set_option maxHeartbeats 1000000 in
theorem fits_w (t n : Int) (m : ByteArray) (w : World) (hm : m.size ≤ maxLen) :
    Calls Tryz.prog 248 #[.int .i64 t, .int .i64 n, .string m] w fun e w' => e = .returned (.bool (fitsS t n m.toList)) ∧ w = w' := by
  obtain ⟨m, rfl⟩ := Str_ex m
  have Hm := Lib.hid hm
  clear hm
  rw [toList_Str]
  have hn := isName_w (Str m)
  rw [toList_Str] at hn
  have Hn := Lib.hid hn
  clear hn
  by_cases h2 : t = 2
  · subst h2
    by_cases a : 0 ≤ n
    · by_cases b : n ≤ 60000
      · have H : Hid (fitsS 2 n m = m.isEmpty) := Lib.hid (by unfold fitsS; simp [a, b])
        go_enter Tryz.func248, Tryz.ntmps248
        go_wp2
        go_ret
        exact ⟨ret_bool (by rw [H.out]), rfl⟩
      · have H : Hid (fitsS 2 n m = false) := Lib.hid (by unfold fitsS; simp [b])
        go_enter Tryz.func248, Tryz.ntmps248
        go_wp2
        go_ret
        exact ⟨ret_bool (by rw [H.out]), rfl⟩
    · have H : Hid (fitsS 2 n m = false) := Lib.hid (by unfold fitsS; simp [a])
      go_enter Tryz.func248, Tryz.ntmps248
      go_wp2
      go_ret
      exact ⟨ret_bool (by rw [H.out]), rfl⟩
  · have d2 := eqf h2
    by_cases h3 : t = 3
    · subst h3
      by_cases a : n = 0
      · subst a
        have H : Hid (fitsS 3 0 m = nameB m) := Lib.hid (by unfold fitsS; simp)
        go_enter Tryz.func248, Tryz.ntmps248
        go_wp2_with (go_at_call 252; refine (Hn.out _ Hm.out).mono ?_; rintro e w1 ⟨rfl, rfl⟩)
        go_ret
        exact ⟨ret_bool (by rw [H.out]), rfl⟩
      · have H : Hid (fitsS 3 n m = false) := Lib.hid (by unfold fitsS; simp [a])
        have d := eqf a
        go_enter Tryz.func248, Tryz.ntmps248
        go_wp2
        go_ret
        exact ⟨ret_bool (by rw [H.out]), rfl⟩
    · have d3 := eqf h3
      by_cases a : n = 0
      · subst a
        have H : Hid (fitsS t 0 m = m.isEmpty) := Lib.hid (by unfold fitsS; simp [h2, h3])
        clear h2 h3
        go_enter Tryz.func248, Tryz.ntmps248
        go_wp2
        go_ret
        exact ⟨ret_bool (by rw [H.out]), rfl⟩
      · have H : Hid (fitsS t n m = false) := Lib.hid (by unfold fitsS; simp [a, h2, h3])
        have d := eqf a
        clear h2 h3 a
        go_enter Tryz.func248, Tryz.ntmps248
        go_wp2
        go_ret
        exact ⟨ret_bool (by rw [H.out]), rfl⟩
theorem conv3 {n k : Nat} (W : World) (T : TypeId) (a b c : Int) (h : n = W.heap.size) :
    (convert 23 9 (.slice (some ⟨n, 0, none⟩) 3 k)).run Tryz.prog (W.alloc (.cells #[.int .u8 a, .int .u8 b, .int .u8 c] T)) =
      .ok (.string (Str [UInt8.ofNat a.toNat, UInt8.ofNat b.toNat, UInt8.ofNat c.toNat])) (W.alloc (.cells #[.int .u8 a, .int .u8 b, .int .u8 c] T)) := conv_u8s W T [a, b, c] h
attribute [go_sem] conv1 conv3
end Go.Proofs.YtmbfghbhajmpiaaGreat.P1
namespace Go.Proofs.YtmbfghbhajmpiaaGreat.P1
open Go.RowKit Go.Sort
set_option linter.unusedVariables false
/-- What a pair is charged. -/
def chargeS (k v : Bs) : Int × Int :=
  match placeS k with
  | some x => if x.tag = 1 then (1, 0) else if x.tag = 2 ∨ x.tag = 3 then (0, v.length) else (0, 0)
  | none => (0, 0)
/-- Sums, as the machine adds. -/
def addW (a b : Int × Int) : Int × Int := (wrap64 (a.1 + b.1), wrap64 (a.2 + b.2))
def totF (l : List Pr) : Int × Int := l.foldl (fun a x => addW a (chargeS x.1 x.2.1)) (0, 0)
end Go.Proofs.YtmbfghbhajmpiaaGreat.P1

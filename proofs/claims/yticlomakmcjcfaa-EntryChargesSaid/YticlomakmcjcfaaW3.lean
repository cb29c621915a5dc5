/-
  Walks: the parser of package path, more.
-/
import Derived.Test.YticlomakmcjcfaaW2
import Derived.Deep.QuietTactic
import Derived.BigQuiet
import Derived.RegionTactic
import Derived.ChangeAlike
namespace Go.Proofs.Yticlomakmcjcfaa
open Go.RowKit
set_option linter.unusedVariables false

theorem extract_Str0 (l : Bs) (b : Nat) : (Str l).extract 0 b = Str (l.take b) := by rw [extract_to, toList_Str]
theorem extract_StrN (l : Bs) (a : Nat) : (Str l).extract a l.length = Str (l.drop a) := by
  have := extract_from (Str l) a
  rwa [size_Str, toList_Str] at this
theorem get_Str (l : Bs) (k : Nat) (h : k < (Str l).size) : (Str l)[k] = l[k]'(by rwa [size_Str] at h) := rfl
attribute [go_sem] size_Str toList_Str extract_Str0 extract_StrN get_Str

set_option maxHeartbeats 400000 in
theorem isDigit_w (n : Int) (w : World) : Calls Try.prog 166 #[.int .u8 n] w fun e w' => e = .returned (.bool (digB n)) ∧ w = w' := by
  by_cases h1 : 48 ≤ n ∧ n ≤ 57
  · have H : Hid (digB n = true) := Lib.hid (by unfold digB; simp [h1])
    obtain ⟨a, b⟩ := h1
    go_enter Try.func166, Try.ntmps166
    go_wp2
    go_ret
    exact ⟨ret_bool H.out.symm, rfl⟩
  · by_cases h2 : 97 ≤ n
    · have h3 : 57 < n := by omega
      have h4 : 48 ≤ n := by omega
      have H : Hid (digB n = decide (n ≤ 102)) := Lib.hid (by unfold digB; simp [h2]; omega)
      clear h1
      by_cases h5 : n ≤ 102
      all_goals
        go_enter Try.func166, Try.ntmps166
        go_wp2
        go_ret
        exact ⟨ret_bool (by rw [H.out]; first | (simp; omega) | simp [h5]), rfl⟩
    · have H : Hid (digB n = false) := Lib.hid (by unfold digB; simp; omega)
      by_cases h5 : 48 ≤ n
      · have h6 : 57 < n := by omega
        clear h1
        go_enter Try.func166, Try.ntmps166
        go_wp2
        go_ret
        exact ⟨ret_bool (by rw [H.out]; simp; omega), rfl⟩
      · clear h1
        go_enter Try.func166, Try.ntmps166
        go_wp2
        go_ret
        exact ⟨ret_bool H.out.symm, rfl⟩

set_option maxHeartbeats 400000 in
theorem take_yes (b : Nat) (T : TypeId) (cs : Array Value) (s : ByteArray) (n : Int) (w : World) (hs : s.size ≤ maxLen) (hb : Blk w b T cs) (h0 : cs[0]? = some (.string s))
    (hn0 : 0 ≤ n) (hn : n ≤ s.size) :
    Calls Try.prog 160 #[.pointer (some ⟨b, 0, none⟩), .int .i64 n] w fun e w' => e = .returned (.tuple #[.string (Str (s.toList.take n.toNat)), .bool true]) ∧ Took b T cs (s.toList.drop n.toNat) w w' := by
  have hc : w.cell? ⟨b, 0, none⟩ = some (.string s) := by rw [hb.cell, h0]
  have hf := hb.free 0
  clear h0
  unfold maxLen at hs
  obtain ⟨k, rfl⟩ := Int.eq_ofNat_of_zero_le hn0
  clear hn0
  rw [Int.toNat_natCast]
  have hk : k ≤ s.size := by omega
  go_enter Try.func160, Try.ntmps160
  go_wp2
  go_ret2
  refine ⟨?_, Took.set hb _ (extract_from s k)⟩
  show Ending.returned (.tuple #[.string (s.extract 0 k), .bool true]) = _
  rw [extract_to]

set_option maxHeartbeats 400000 in
theorem take_no (b : Nat) (T : TypeId) (cs : Array Value) (s : ByteArray) (n : Int) (w : World) (hs : s.size ≤ maxLen) (hb : Blk w b T cs) (h0 : cs[0]? = some (.string s))
    (hn : (s.size : Int) < n) :
    Calls Try.prog 160 #[.pointer (some ⟨b, 0, none⟩), .int .i64 n] w fun e w' => e = .returned (.tuple #[.string (Str []), .bool false]) ∧ w = w' := by
  have hc : w.cell? ⟨b, 0, none⟩ = some (.string s) := by rw [hb.cell, h0]
  have hf := hb.free 0
  clear h0
  unfold maxLen at hs
  go_enter Try.func160, Try.ntmps160
  go_wp2
  go_ret2
  exact ⟨rfl, rfl⟩

theorem bodyB_len {l : Bs} (h : ¬ l.length = 10) : bodyB l = false := by unfold bodyB; simp [h]
theorem bodyB_all {l : Bs} (h : l.length = 10) (h0 : l[0]? = some 5) (h9 : l[9]? = some 47) :
    bodyB l = (((l.drop 1).take 8).all (fun c => digB c.toNat) && (l[1]?.any fun c => decide (c.toNat ≤ 55))) := by unfold bodyB; rw [h0, h9, decide_eq_true h]; rfl
theorem bodyB_no0 {l : Bs} (h0 : ¬ l[0]? = some 5) : bodyB l = false := by unfold bodyB; simp [h0]
theorem bodyB_no9 {l : Bs} (h0 : ¬ l[9]? = some 47) : bodyB l = false := by unfold bodyB; simp [h0]
theorem u8_eq {c : UInt8} {n : Nat} (hn : n < 256) : (c.toNat : Int) = (n : Int) ↔ c = n.toUInt8 := by
  constructor
  · intro h
    apply UInt8.toNat_inj.1
    have : c.toNat = n := by omega
    rw [this]; simp; omega
  · intro h; rw [h]; simp; omega

set_option maxHeartbeats 1000000 in
theorem isBody_w (s : ByteArray) (w : World) (hs : s.size ≤ maxLen) :
    Calls Try.prog 138 #[.string s] w fun e w' => e = .returned (.bool (bodyB s.toList)) ∧ w = w' := by
  unfold maxLen at hs
  have Hz := Lib.hid (size_len s)
  by_cases hz : s.size = 10
  · have hzb : ((s.size : Int) != 10) = false := by rw [hz]; rfl
    have p0 : 0 < s.size := by omega
    have p1 : 1 < s.size := by omega
    have p9 : 9 < s.size := by omega
    have h0 := get_toList s 0 p0
    have h9 := get_toList s 9 p9
    have h1 := get_toList s 1 p1
    have Hz10 := Lib.hid hz
    clear hz
    by_cases e0 : (s[0].toNat : Int) = 5
    · have b0 : ((s[0].toNat : Int) != 5) = false := by rw [e0]; rfl
      have e0' : s.toList[0]? = some 5 := by rw [h0]; rw [(u8_eq (n := 5) (by omega)).1 e0]; rfl
      clear e0
      by_cases e9 : (s[9].toNat : Int) = 47
      · have b9 : ((s[9].toNat : Int) != 47) = false := by rw [e9]; rfl
        have e9' : s.toList[9]? = some 47 := by rw [h9]; rw [(u8_eq (n := 47) (by omega)).1 e9]; rfl
        have HB := Lib.hid (bodyB_all (by rw [← size_len]; exact Hz10.out) e0' e9')
        have H1 := Lib.hid h1
        clear e9 e0' e9' h0 h1 h9
        go_enter Try.func138, Try.ntmps138
        go_wp2
        go_loop [3] (fun i => ∃ k : Nat, k ≤ 8 ∧ i = .int .i64 (k + 1 : Nat) ∧ Hid (((s.toList.drop 1).take k).all (fun c => digB c.toNat) = true)) (fun i => 9 - (intOf i).toNat)
        case atStart => exact ⟨0, by omega, rfl, Lib.hid rfl⟩
        case round =>
          obtain ⟨k, hk, rfl, hall⟩ := hrel
          by_cases hlt : k < 8
          · have pk : k + 1 < s.size := by have := Hz10.out; omega
            have hg := Lib.hid (get_toList s (k + 1) pk)
            by_cases hd : digB s[k + 1].toNat = true
            · have Hd := Lib.hid hd
              clear hd
              go_wp2_with (go_at_call 166; refine (isDigit_w _ _).mono ?_; rw [Hd.out]; rintro e w' ⟨rfl, rfl⟩)
              go_round
              case rel => exact ⟨k + 1, by omega, by go_num, Lib.hid (by
                rw [List.take_add_one, List.all_append, hall.out, List.getElem?_drop, Nat.add_comm 1 k, hg.out]; simp [Hd.out])⟩
              case measure => simp [intOf]; omega
            · have Hd : Hid (digB s[k + 1].toNat = false) := Lib.hid (by simpa using hd)
              clear hd
              go_wp2_with (go_at_call 166; refine (isDigit_w _ _).mono ?_; rw [Hd.out]; rintro e w' ⟨rfl, rfl⟩)
              go_ret
              refine ⟨ret_bool ?_, rfl⟩
              rw [HB.out]
              have : ((s.toList.drop 1).take 8).all (fun c => digB c.toNat) = false := by
                rw [List.all_eq_false]
                refine ⟨s[k + 1], ?_, by simp [Hd.out]⟩
                apply List.mem_of_getElem? (i := k)
                rw [List.getElem?_take, if_pos hlt, List.getElem?_drop, Nat.add_comm 1 k, hg.out]
              rw [this]; rfl
          · obtain rfl : k = 8 := by omega
            go_wp2
            go_ret
            refine ⟨ret_bool ?_, rfl⟩
            rw [HB.out, hall.out, H1.out]
            simp; omega
      · have b9 : ((s[9].toNat : Int) != 47) = true := by simpa using e9
        have HB := Lib.hid (bodyB_no9 (l := s.toList) (by rw [h9]; intro h; apply e9; simp only [Option.some.injEq] at h; rw [h]; rfl))
        clear e9 h0 h1 h9
        go_enter Try.func138, Try.ntmps138
        go_wp2
        go_ret
        exact ⟨ret_bool HB.out.symm, rfl⟩
    · have b0 : ((s[0].toNat : Int) != 5) = true := by simpa using e0
      have HB := Lib.hid (bodyB_no0 (l := s.toList) (by rw [h0]; intro h; apply e0; simp only [Option.some.injEq] at h; rw [h]; rfl))
      clear e0 h0 h1 h9
      go_enter Try.func138, Try.ntmps138
      go_wp2
      go_ret
      exact ⟨ret_bool HB.out.symm, rfl⟩
  · have hzb : ((s.size : Int) != 10) = true := by simp; omega
    have HB := Lib.hid (bodyB_len (l := s.toList) (by rw [← Hz.out]; exact hz))
    clear hz
    go_enter Try.func138, Try.ntmps138
    go_wp2
    go_ret
    exact ⟨ret_bool HB.out.symm, rfl⟩

end Go.Proofs.Yticlomakmcjcfaa

/-
  Walks: numbers and texts that are read.
-/
import Derived.Test.YtdckiaokldkfmaaGreatMZ
namespace Go.Proofs.YtdckiaokldkfmaaGreat
open Go.RowKit Go.Sort
set_option linter.unusedVariables false

theorem takeP_len (k : Nat) (s : RS) : (takeP k s).1.length ≤ k := by
  unfold takeP; split
  · simp
  · simp only [List.length_take]; omega
theorem take_nat (l : Bs) (k : Nat) (h : k < l.length) : l.take (k + 1) = l.take k ++ [l[k]] := by
  rw [List.take_add_one, List.getElem?_eq_getElem h]; rfl
set_option maxRecDepth 100000 in
set_option maxHeartbeats 2000000 in
theorem number_w (rb k : Nat) (s : RS) (w : World) (h : Rd w rb s) (hk : k ≤ 4) : Calls Tryz.prog 66 #[ptrV rb, .int .i64 k] w fun e w' => e = .returned (.int .i64 ((numP k s).1 : Nat)) ∧ Rd w' rb (numP k s).2 ∧ Only rb w w' := by
  have HT := Lib.hid (take_w rb k s w h (by omega))
  have hlen := takeP_len k s
  have H1 : Hid ((numP k s).1 = numF (takeP k s).1) := Lib.hid rfl
  have H2 : Hid ((numP k s).2 = (takeP k s).2) := Lib.hid rfl
  clear h
  generalize takeP k s = r at *
  obtain ⟨l, s2⟩ := r
  simp only at hlen H1 H2
  go_enter Tryz.func66, Tryz.ntmps66
  go_wp2_with fail
  refine HT.out.mono ?_
  rintro e w1 ⟨v, rfl, hv, hr, ho⟩
  simp only at hv hr
  obtain ⟨g, off, cap, p, rfl, hlc, hcm, hpp, hcc⟩ := hv.form
  unfold maxLen at hcm
  have HC := Lib.hid hcc
  have HR := Lib.hid hr
  have HO := Lib.hid ho
  clear hv hpp hcc hr ho HT
  go_wp2
  go_loop [5, 12] (fun x i => ∃ j : Nat, j ≤ l.length ∧ i = .int .i64 j ∧ x = .int .i64 (numF (l.take j) : Nat)) (fun _ i => l.length - (intOf i).toNat)
  case atStart => exact ⟨0, Nat.zero_le _, rfl, rfl⟩
  case round =>
    obtain ⟨j, hj, rfl, rfl⟩ := hrel
    by_cases hlt : j < l.length
    · obtain ⟨rfl, c0⟩ := HC.out j hlt
      have hltz : (j : Int) < (l.length : Int) := by omega
      have hn := numF_snoc (l.take j) l[j]
      rw [← take_nat l j hlt] at hn
      have hb : numF (l.take j) < 16777216 := by
        have h1 := numF_lt (l.take j)
        have h2 : (l.take j).length ≤ 3 := by have := List.length_take_le j l; omega
        exact Nat.lt_of_lt_of_le h1 (Nat.pow_le_pow_right (n := 256) (by decide) h2)
      have hc : l[j].toNat < 256 := l[j].toNat_lt
      have Hn := Lib.hid hn
      clear hn
      generalize l[j] = x at *
      generalize numF (l.take j) = m at *
      generalize hm' : numF (l.take (j + 1)) = m' at *
      have Hm := Lib.hid hm'
      clear hm'
      have e : bits .or .i64 ((m : Int) * 256) x.toNat = (m : Int) * 256 + x.toNat :=
        bits_join .i64 40 (by decide) (fun n h1 h2 => by rw [IntKind.wrap_i64]; omega) 8 _ _ (by omega) (by omega) (by omega) (by omega) (by omega) (by omega)
      have He := Lib.hid e
      clear e
      go_wp2
      go_round
      case rel => exact ⟨j + 1, by omega, by go_num, by rw [He.out, Hm.out, Hn.out]; congr 1; omega⟩
      case measure => simp [intOf]; omega
    · obtain rfl : j = l.length := by omega
      go_wp2
      go_ret
      exact ⟨ret_int (by rw [H1.out]), by rw [H2.out]; exact HR.out, HO.out⟩

theorem numP2_lt (s : RS) : (numP 2 s).1 < 65536 := by
  have h := numF_lt (takeP 2 s).1
  have h2 := takeP_len 2 s
  exact Nat.lt_of_lt_of_le h (Nat.pow_le_pow_right (n := 256) (by decide) h2)
theorem conv_bytes {v : Value} {l : Bs} {w : World} (h : IsBytes w v l) : (convert 48 9 v).run Tryz.prog w = .ok (.string (Str l)) w := by
  obtain ⟨a, cap, rfl, hlc, hcm, hc⟩ := h
  cases a with
  | none =>
    have hl : l = [] := by
      cases l with
      | nil => rfl
      | cons x r => obtain ⟨b, off, e, _⟩ := hc (by simp); cases e
    subst hl
    exact run_convert_bytes_nil (P := Tryz.prog) w 48 5 Tryz.underlying48 Tryz.underlying5 _ _ 9 Tryz.underlying9
  | some ad =>
    refine run_convert_bytes_back w 48 9 5 ad cap l Tryz.underlying48 Tryz.underlying5 Tryz.underlying9 fun j hj => ?_
    obtain ⟨b, off, e, -, hcc⟩ := hc (by rintro rfl; simp at hj)
    cases e
    have hadd : (⟨b, off, none⟩ : Addr).add j = ⟨b, off + j, none⟩ := by unfold Addr.add; split <;> simp_all
    rw [hadd]; exact hcc j hj
set_option maxRecDepth 100000 in
set_option maxHeartbeats 2000000 in
theorem text_w (rb : Nat) (s : RS) (w : World) (h : Rd w rb s) : Calls Tryz.prog 67 #[ptrV rb] w fun e w' => e = .returned (.string (Str (textP s).1)) ∧ Rd w' rb (textP s).2 ∧ Only rb w w' := by
  have HN := Lib.hid (number_w rb 2 s w h (by omega))
  have hlt := numP2_lt s
  have H : Hid (textP s = takeP (numP 2 s).1 (numP 2 s).2) := Lib.hid rfl
  clear h
  generalize textP s = r at *
  generalize numP 2 s = q at *
  obtain ⟨n, s2⟩ := q
  simp only at HN H hlt
  go_enter Tryz.func67, Tryz.ntmps67
  go_wp2_with fail
  refine HN.out.mono ?_
  rintro e w1 ⟨rfl, hr, ho⟩
  have HO := Lib.hid ho
  have HR := Lib.hid hr
  clear hr ho HN
  go_wp2_with fail
  refine (take_w rb n s2 w1 HR.out (by omega)).mono ?_
  rintro e w2 ⟨v, rfl, hv, hr, ho⟩
  have hcv := conv_bytes hv
  have HR2 := Lib.hid hr
  have HO2 := Lib.hid (HO.out.trans ho)
  clear hv hr ho
  go_wp2
  go_ret
  rw [H.out]
  exact ⟨rfl, HR2.out, HO2.out⟩

end Go.Proofs.YtdckiaokldkfmaaGreat

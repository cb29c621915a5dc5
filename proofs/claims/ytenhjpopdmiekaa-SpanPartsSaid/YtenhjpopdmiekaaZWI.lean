/-
  Walks: whether one of some spans has a key; whether a span is empty (the reference's).
-/
import Derived.Test.YtenhjpopdmiekaaZW8
namespace Go.Proofs.Ytenhjpopdmiekaa
open Go.RowKit Go.Sort
set_option linter.unusedVariables false

theorem inB_take (l : List Sp) (k : Bs) (i : Nat) (h : i < l.length) : inB (l.take (i + 1)) k = (inB (l.take i) k || hasB l[i] k) := by
  unfold inB
  rw [List.take_add_one, List.getElem?_eq_getElem h, List.any_append]
  simp
theorem inB_hit (l : List Sp) (k : Bs) (i : Nat) (h : i < l.length) (hh : hasB l[i] k = true) : inB l k = true := by
  unfold inB
  rw [List.any_eq_true]
  exact ⟨l[i], List.getElem_mem h, hh⟩
set_option maxHeartbeats 1000000 in
theorem in_w (v : Value) (l : List Sp) (k : Bs) (w : World) (h : IsSpans w v l) : Calls Try.prog 33 #[v, .string (Str k)] w fun e w' => e = .returned (.bool (inB l k)) ∧ Grown w w' := by
  obtain ⟨g, off, cap, p, rfl, hlc, hcm, hpp, hcc⟩ := h.form
  unfold maxLen at hcm
  have HP := Lib.hid hpp
  have HC := Lib.hid hcc
  clear h hpp hcc
  go_enter Try.func33, Try.ntmps33
  go_wp2
  go_loopw [5] (fun i wr => ∃ j : Nat, j ≤ l.length ∧ i = .int .i64 j ∧ Hid (inB (l.take j) k = false) ∧ Grown w wr) (fun i _ => l.length - (intOf i).toNat)
  case atStart => exact ⟨0, Nat.zero_le _, rfl, Lib.hid rfl, Grown.refl _⟩
  case round =>
    obtain ⟨j, hj, rfl, hin, hgr⟩ := hrel
    by_cases hlt : j < l.length
    · obtain ⟨rfl, c0, c1⟩ := HC.out j hlt
      have hgl := (HP.out (by rintro rfl; simp at hlt)).2
      have hb := hgr.below (B := w.heap.size) (Nat.le_refl _)
      have c0 := (hb.cell (p := ⟨g, off + j * 2, none⟩) (by exact hgl)).trans c0
      have c1 := (hb.cell (p := ⟨g, off + j * 2 + 1, none⟩) (by exact hgl)).trans c1
      have Ht := Lib.hid (inB_take l k j hlt)
      have Hh := Lib.hid (inB_hit l k j hlt)
      have Hg := Lib.hid hgr
      have hltz : (j : Int) < (l.length : Int) := by omega
      clear hb hgr
      generalize hx : l[j] = x at *
      obtain ⟨a, b⟩ := x
      simp only at c0 c1
      have hh := fun wx => rhas_w a b k wx
      clear hx
      cases hB : hasB (a, b) k with
      | true =>
        rw [hB] at hh
        have H := Lib.hid (Hh.out hB)
        clear hB
        go_wp2_with (go_at_call 18; refine (hh _).mono ?_; rintro e w2 ⟨rfl, hg⟩; have Hg2 := Lib.hid (Hg.out.trans hg); clear hg)
        go_ret
        exact ⟨ret_bool H.out.symm, Hg2.out⟩
      | false =>
        rw [hB] at hh
        have H : Hid (inB (l.take (j + 1)) k = false) := Lib.hid (by rw [Ht.out, hin.out, hB]; rfl)
        clear hB
        go_wp2_with (go_at_call 18; refine (hh _).mono ?_; rintro e w2 ⟨rfl, hg⟩; have Hg2 := Lib.hid (Hg.out.trans hg); clear hg)
        go_roundw
        case rel => exact ⟨j + 1, by omega, by go_num, H, Hg2.out⟩
        case measure => simp [intOf]; omega
    · have H : Hid (inB l k = false) := Lib.hid (by have := hin.out; rwa [List.take_of_length_le (by omega)] at this)
      go_wp2
      go_ret
      exact ⟨ret_bool H.out.symm, hgr⟩

end Go.Proofs.Ytenhjpopdmiekaa

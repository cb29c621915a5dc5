/-
  Walks: Covers and Prefix of package span; the small functions of the reference.
-/
import Derived.Test.YtenhjpopdmiekaaZW2
namespace Go.Proofs.Ytenhjpopdmiekaa
open Go.RowKit Go.Sort
set_option linter.unusedVariables false

theorem conv_u8s {n c : Nat} (W : World) (T : TypeId) (xs : List Int) (h : n = W.heap.size) :
    (convert 49 9 (.slice (some ⟨n, 0, none⟩) xs.length c)).run Try.prog (W.alloc (.cells (xs.map (Value.int .u8)).toArray T)) =
      .ok (.string (Str (xs.map fun x => UInt8.ofNat x.toNat))) (W.alloc (.cells (xs.map (Value.int .u8)).toArray T)) := by
  subst h
  rw [run_convert_bytes_arg (P := Try.prog) _ 49 5 Try.underlying49 Try.underlying5 W.heap.size 0 xs.length c xs rfl (fun i hi => by
    rw [Nat.zero_add, World.cell?_alloc_new]; simp [hi]) 9 Try.underlying9]
  rfl
theorem conv1 {n c : Nat} (W : World) (T : TypeId) (a : Int) (h : n = W.heap.size) :
    (convert 49 9 (.slice (some ⟨n, 0, none⟩) 1 c)).run Try.prog (W.alloc (.cells #[.int .u8 a] T)) =
      .ok (.string (Str [UInt8.ofNat a.toNat])) (W.alloc (.cells #[.int .u8 a] T)) := conv_u8s W T [a] h
theorem conv1d {n c : Nat} (W : World) (T : TypeId) (a : Int) (h : n = W.heap.size) :
    (convert 49 9 (.slice (some ⟨n, 0, none⟩) 1 c)).run Try.prog ((W.alloc (.cells #[.int .u8 a] T)).drew) =
      .ok (.string (Str [UInt8.ofNat a.toNat])) ((W.alloc (.cells #[.int .u8 a] T)).drew) := conv1 W.drew T a h
attribute [go_sem] conv1 conv1d

theorem drop_full (p : Bs) (i : Nat) (hi : i < p.length) (h : p.drop (i + 1) = List.replicate (p.length - (i + 1)) 255) (hc : p[i] = 255) : p.drop i = List.replicate (p.length - i) 255 := by
  rw [List.drop_eq_getElem_cons hi, h, hc, ← List.replicate_succ]; congr 1; omega
theorem preT_at (p : Bs) (i : Nat) (hi : i < p.length) (h : p.drop (i + 1) = List.replicate (p.length - (i + 1)) 255) (hc : ¬ p[i] = 255) : preT p = p.take i ++ [p[i] + 1] := by
  have : p = p.take i ++ p[i] :: List.replicate (p.length - (i + 1)) 255 := by
    rw [← h, ← List.drop_eq_getElem_cons hi, List.take_append_drop]
  unfold preT
  have h2 := preH_app (p.take i) p[i] (p.length - (i + 1)) hc
  rw [← this] at h2
  rw [h2]; rfl
theorem preT_full (p : Bs) (h : p.drop 0 = List.replicate (p.length - 0) 255) : preT p = [] := by
  unfold preT
  rw [List.drop_zero] at h
  rw [h, preH_full]; rfl
theorem u8_inc (c : UInt8) (h : ¬ c = 255) : UInt8.ofNat (((c.toNat : Int) + 1).toNat) = c + 1 := by
  have h0 : c.toNat ≠ 255 := fun h' => h (UInt8.toNat_inj.1 (by rw [h']; rfl))
  have h1 := c.toNat_lt
  apply UInt8.toNat_inj.1
  rw [UInt8.toNat_ofNat', UInt8.toNat_add]
  have : ((c.toNat : Int) + 1).toNat = c.toNat + 1 := by omega
  rw [this]; rfl

set_option maxRecDepth 100000 in
set_option maxHeartbeats 2000000 in
theorem prefix_w (p : Bs) (w : World) (hp : p.length ≤ 140737488355328) : Calls Try.prog 11 #[.string (Str p)] w fun e w' => e = .returned (.agg #[.string (Str p), .string (Str (preT p))]) ∧ Grown w w' := by
  have hsz := size_Str p
  go_enter Try.func11, Try.ntmps11
  go_wp2
  go_loop [3] (fun i => ∃ k : Nat, k ≤ p.length ∧ i = .int .i64 ((k : Int) - 1) ∧ Hid (p.drop k = List.replicate (p.length - k) 255)) (fun i => (intOf i + 1).toNat)
  case atStart => exact ⟨p.length, Nat.le_refl _, by first | rfl | go_num, Lib.hid (by simp)⟩
  case round =>
    obtain ⟨k, hk, rfl, HD⟩ := hrel
    by_cases hk0 : k = 0
    · subst hk0
      have H := Lib.hid (preT_full p HD.out)
      go_wp2
      refine bodyPost_ret (v := .agg #[.string (Str p), .string (Str [])]) (by simp [results, Try.results11, go_sem]; try rfl) rfl ⟨by rw [H.out], ?_⟩
      repeat (first | exact Grown.refl _ | refine Grown.setCell ?_ _ _ _ (by simp) | refine Grown.alloc ?_ _)
    · obtain ⟨j, rfl⟩ : ∃ j, k = j + 1 := ⟨k - 1, by omega⟩
      have hj : j < p.length := by omega
      by_cases hc : p[j] = 255
      · have HD' := Lib.hid (drop_full p j hj HD.out hc)
        have hcn : (p[j].toNat : Int) = 255 := by rw [hc]; rfl
        have hcb : ((p[j].toNat : Int) == 255) = true := by rw [hcn]; rfl
        clear hc hcn
        go_wp2
        go_round
        case rel => exact ⟨j, by omega, by go_num, HD'⟩
        case measure => simp [intOf]
      · have H := Lib.hid (preT_at p j hj HD.out hc)
        have hcn : (p[j].toNat : Int) < 255 := by
          have h0 : p[j].toNat ≠ 255 := fun h' => hc (UInt8.toNat_inj.1 (by rw [h']; rfl))
          have h1 := p[j].toNat_lt
          omega
        have hcb : ((p[j].toNat : Int) == 255) = false := by simp; omega
        have Hi := Lib.hid (u8_inc p[j] hc)
        have hwr : IntKind.u8.wrap ((p[j].toNat : Int) + 1) = (p[j].toNat : Int) + 1 := by simp [IntKind.wrap, IntKind.bits, IntKind.signed]; omega
        clear hc
        go_wp2
        go_region
        all_goals go_wp2
        all_goals
          refine bodyPost_ret (v := .agg #[.string (Str p), .string (Str (p.take j ++ [p[j] + 1]))]) (by simp [results, Try.results11, go_sem, Str_add, Hi.out]) rfl ⟨by rw [H.out], ?_⟩
          repeat (first | exact Grown.refl _ | refine Grown.setCell ?_ _ _ _ (by simp) | refine Grown.alloc ?_ _ | refine Grown.draw ?_)

end Go.Proofs.Ytenhjpopdmiekaa

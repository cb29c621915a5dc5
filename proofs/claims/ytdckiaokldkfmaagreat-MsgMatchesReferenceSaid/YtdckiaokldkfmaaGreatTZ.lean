/-
  Walks: One, Moved and Prefix of package span.
-/
import Derived.Test.YtdckiaokldkfmaaGreatZW1
import Derived.Test.YtdckiaokldkfmaaGreatZS2
namespace Go.Proofs.YtdckiaokldkfmaaGreat
open Go.RowKit Go.Sort
set_option linter.unusedVariables false

set_option maxHeartbeats 1000000 in
theorem one_w (k : Bs) (w : World) (hk : k.length ≤ 140737488355328) : Calls Tryz.prog 108 #[.string (Str k)] w fun e w' => e = .returned (.agg #[.string (Str k), .string (Str (k ++ [0]))]) ∧ Grown w w' := by
  go_enter Tryz.func108, Tryz.ntmps108
  go_wp2
  refine bodyPost_ret (v := .agg #[.string (Str k), .string (Str (k ++ [0]))]) (by simp [results, Tryz.results108, go_sem]; exact Str_add k [0]) rfl ⟨rfl, ?_⟩
  repeat (first | exact Grown.refl _ | refine Grown.setCell ?_ _ _ _ (by simp) | refine Grown.alloc ?_ _)

theorem cut_yes (k a : Bs) (w : World) (h : a.isPrefixOf k = true) : Calls Tryz.prog 147 #[.string (Str k), .string (Str a)] w fun e w' => e = .returned (.tuple #[.string (Str (k.drop a.length)), .bool true]) ∧ w = w' := by
  refine (Tryz.strings_CutPrefix (Str k) (Str a) w).mono fun e w' ⟨he, hw⟩ => ⟨?_, hw.symm⟩
  rw [he]
  show Ending.returned (.tuple #[.string ⟨(Lib.trimPrefix k a).toArray⟩, .bool (Lib.hasPrefix k a)]) = _
  unfold Lib.trimPrefix Lib.hasPrefix
  rw [h]; rfl
theorem cut_no (k a : Bs) (w : World) (h : a.isPrefixOf k = false) : Calls Tryz.prog 147 #[.string (Str k), .string (Str a)] w fun e w' => e = .returned (.tuple #[.string (Str k), .bool false]) ∧ w = w' := by
  refine (Tryz.strings_CutPrefix (Str k) (Str a) w).mono fun e w' ⟨he, hw⟩ => ⟨?_, hw.symm⟩
  rw [he]
  show Ending.returned (.tuple #[.string ⟨(Lib.trimPrefix k a).toArray⟩, .bool (Lib.hasPrefix k a)]) = _
  unfold Lib.trimPrefix Lib.hasPrefix
  rw [h]; rfl

/-- What Moved hands back. -/
def movedV (k a b : Bs) : Value := match movedS k a b with
  | some m => .tuple #[.string (Str m), .bool true]
  | none => .tuple #[.string (Str []), .bool false]
theorem movedV_yes {k a b : Bs} (h : a.isPrefixOf k = true) : movedV k a b = .tuple #[.string (Str (b ++ k.drop a.length)), .bool true] := by unfold movedV movedS; rw [if_pos h]
theorem movedV_no {k a b : Bs} (h : a.isPrefixOf k = false) : movedV k a b = .tuple #[.string (Str []), .bool false] := by unfold movedV movedS; rw [if_neg (by rw [h]; simp)]
set_option maxHeartbeats 1000000 in
theorem moved_w (k a b : Bs) (w : World) (hk : k.length ≤ 140737488355328) (hb : b.length ≤ 140737488355328) :
    Calls Tryz.prog 145 #[.string (Str k), .string (Str a), .string (Str b)] w fun e w' => e = .returned (movedV k a b) ∧ Grown w w' := by
  cases h : a.isPrefixOf k with
  | true =>
    have hc := fun wx => cut_yes k a wx h
    have hl : (k.drop a.length).length ≤ 140737488355328 := by rw [List.length_drop]; omega
    rw [movedV_yes h]
    clear h hk
    generalize k.drop a.length = r at *
    go_enter Tryz.func145, Tryz.ntmps145
    go_wp2_with (go_at_call 147; refine (hc _).mono ?_; rintro e w' ⟨rfl, rfl⟩)
    go_ret2
    refine ⟨?_, Grown.refl _⟩
    show Ending.returned (.tuple #[.string (Str b ++ Str r), .bool true]) = _
    rw [Str_add]
  | false =>
    have hc := fun wx => cut_no k a wx h
    rw [movedV_no h]
    clear h
    go_enter Tryz.func145, Tryz.ntmps145
    go_wp2_with (go_at_call 147; refine (hc _).mono ?_; rintro e w' ⟨rfl, rfl⟩)
    go_ret2
    exact ⟨rfl, Grown.refl _⟩

theorem conv_u8s {n c : Nat} (W : World) (T : TypeId) (xs : List Int) (h : n = W.heap.size) :
    (convert 48 9 (.slice (some ⟨n, 0, none⟩) xs.length c)).run Tryz.prog (W.alloc (.cells (xs.map (Value.int .u8)).toArray T)) =
      .ok (.string (Str (xs.map fun x => UInt8.ofNat x.toNat))) (W.alloc (.cells (xs.map (Value.int .u8)).toArray T)) := by
  subst h
  rw [run_convert_bytes_arg (P := Tryz.prog) _ 48 5 Tryz.underlying48 Tryz.underlying5 W.heap.size 0 xs.length c xs rfl (fun i hi => by
    rw [Nat.zero_add, World.cell?_alloc_new]; simp [hi]) 9 Tryz.underlying9]
  rfl
theorem conv1 {n c : Nat} (W : World) (T : TypeId) (a : Int) (h : n = W.heap.size) :
    (convert 48 9 (.slice (some ⟨n, 0, none⟩) 1 c)).run Tryz.prog (W.alloc (.cells #[.int .u8 a] T)) =
      .ok (.string (Str [UInt8.ofNat a.toNat])) (W.alloc (.cells #[.int .u8 a] T)) := conv_u8s W T [a] h
theorem conv1d {n c : Nat} (W : World) (T : TypeId) (a : Int) (h : n = W.heap.size) :
    (convert 48 9 (.slice (some ⟨n, 0, none⟩) 1 c)).run Tryz.prog ((W.alloc (.cells #[.int .u8 a] T)).drew) =
      .ok (.string (Str [UInt8.ofNat a.toNat])) ((W.alloc (.cells #[.int .u8 a] T)).drew) := conv1 W.drew T a h
attribute [go_sem] conv1 conv1d

theorem drop_full (p : Bs) (i : Nat) (hi : i < p.length) (h : p.drop (i + 1) = List.replicate (p.length - (i + 1)) 255) (hc : p[i] = 255) : p.drop i = List.replicate (p.length - i) 255 := by
  rw [List.drop_eq_getElem_cons hi, h, hc, ← List.replicate_succ]; congr 1; omega
theorem preT_at (p : Bs) (i : Nat) (hi : i < p.length) (h : p.drop (i + 1) = List.replicate (p.length - (i + 1)) 255) (hc : ¬ p[i] = 255) : preT p = p.take i ++ [p[i] + 1] := by
  have : p = p.take i ++ p[i] :: List.replicate (p.length - (i + 1)) 255 := by
    rw [← h, ← List.drop_eq_getElem_cons hi, List.take_append_drop]
  unfold preT
  have h2 := preH_app (p.take i) p[i] (p.length - (i + 1)) hc
  rw [← this] at h2
  rw [h2]; rfl
theorem preT_full (p : Bs) (h : p.drop 0 = List.replicate (p.length - 0) 255) : preT p = [] := by
  unfold preT
  rw [List.drop_zero] at h
  rw [h, preH_full]; rfl
theorem u8_inc (c : UInt8) (h : ¬ c = 255) : UInt8.ofNat (((c.toNat : Int) + 1).toNat) = c + 1 := by
  have h0 : c.toNat ≠ 255 := fun h' => h (UInt8.toNat_inj.1 (by rw [h']; rfl))
  have h1 := c.toNat_lt
  apply UInt8.toNat_inj.1
  rw [UInt8.toNat_ofNat', UInt8.toNat_add]
  have : ((c.toNat : Int) + 1).toNat = c.toNat + 1 := by omega
  rw [this]; rfl

set_option maxRecDepth 100000 in
set_option maxHeartbeats 2000000 in
theorem prefix_w (p : Bs) (w : World) (hp : p.length ≤ 140737488355328) : Calls Tryz.prog 137 #[.string (Str p)] w fun e w' => e = .returned (.agg #[.string (Str p), .string (Str (preT p))]) ∧ Grown w w' := by
  have hsz := size_Str p
  go_enter Tryz.func137, Tryz.ntmps137
  go_wp2
  go_loop [3] (fun i => ∃ k : Nat, k ≤ p.length ∧ i = .int .i64 ((k : Int) - 1) ∧ Hid (p.drop k = List.replicate (p.length - k) 255)) (fun i => (intOf i + 1).toNat)
  case atStart => exact ⟨p.length, Nat.le_refl _, by first | rfl | go_num, Lib.hid (by simp)⟩
  case round =>
    obtain ⟨k, hk, rfl, HD⟩ := hrel
    by_cases hk0 : k = 0
    · subst hk0
      have H := Lib.hid (preT_full p HD.out)
      go_wp2
      refine bodyPost_ret (v := .agg #[.string (Str p), .string (Str [])]) (by simp [results, Tryz.results137, go_sem]; try rfl) rfl ⟨by rw [H.out], ?_⟩
      repeat (first | exact Grown.refl _ | refine Grown.setCell ?_ _ _ _ (by simp) | refine Grown.alloc ?_ _)
    · obtain ⟨j, rfl⟩ : ∃ j, k = j + 1 := ⟨k - 1, by omega⟩
      have hj : j < p.length := by omega
      by_cases hc : p[j] = 255
      · have HD' := Lib.hid (drop_full p j hj HD.out hc)
        have hcn : (p[j].toNat : Int) = 255 := by rw [hc]; rfl
        have hcb : ((p[j].toNat : Int) == 255) = true := by rw [hcn]; rfl
        clear hc hcn
        go_wp2
        go_round
        case rel => exact ⟨j, by omega, by go_num, HD'⟩
        case measure => simp [intOf]
      · have H := Lib.hid (preT_at p j hj HD.out hc)
        have hcn : (p[j].toNat : Int) < 255 := by
          have h0 : p[j].toNat ≠ 255 := fun h' => hc (UInt8.toNat_inj.1 (by rw [h']; rfl))
          have h1 := p[j].toNat_lt
          omega
        have hcb : ((p[j].toNat : Int) == 255) = false := by simp; omega
        have Hi := Lib.hid (u8_inc p[j] hc)
        have hwr : IntKind.u8.wrap ((p[j].toNat : Int) + 1) = (p[j].toNat : Int) + 1 := by simp [IntKind.wrap, IntKind.bits, IntKind.signed]; omega
        clear hc
        go_wp2
        go_region
        all_goals go_wp2
        all_goals
          refine bodyPost_ret (v := .agg #[.string (Str p), .string (Str (p.take j ++ [p[j] + 1]))]) (by simp [results, Tryz.results137, go_sem, Str_add]) rfl ⟨by rw [H.out], ?_⟩
          repeat (first | exact Grown.refl _ | refine Grown.setCell ?_ _ _ _ (by simp) | refine Grown.alloc ?_ _ | refine Grown.draw ?_)

end Go.Proofs.YtdckiaokldkfmaaGreat

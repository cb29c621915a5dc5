/-
  Walks: copies of the slots of a pool; whether an id is that of a used slot.
-/
import Derived.Test.YtlgangcldlphnaaPC
namespace Go.Proofs.Ytlgangcldlphnaa
open Go.RowKit Go.Sort
set_option linter.unusedVariables false
set_option maxRecDepth 100000

set_option maxHeartbeats 2000000 in
theorem cloneSl_w (v : Value) (P : List Sl) (w0 w : World) (h : SlF w0 w v P) (hb0 : Below w0.heap.size w0 w) (hl : P.length ≤ 1000000) :
    Calls Try.prog 40 #[v] w fun e w' => ∃ v', e = .returned v' ∧ OwnF w0 w' w.heap.size v' P ∧ Below w.heap.size w w' := by
  obtain ⟨L, hall, hany⟩ := h.any
  have HA := Lib.hid hall
  have H := Lib.hid (h.slots hb0)
  obtain ⟨a, cap, rfl, hle, hcm, hpm⟩ := (h.slots hb0).slice
  have HY := Lib.hid hany
  have HL := Lib.hid hall.1
  clear h hall hany
  have q26 : ∀ (w : World) (a : Option Addr) (n c n' c' : Nat), (binOp .eql 27 (.slice a n c) (.slice none n' c')).run Try.prog w = .ok (.bool a.isNone) w := fun w a n c n' c' => Lib.run_eql_slice_nil w _ _ a n c n' c' Try.underlying27
  cases a with
  | none =>
    have hn : P = [] := by
      by_cases e : 0 < P.length
      · obtain ⟨b, off, cap', s, e, _⟩ := slot_at H.out 0 e; cases e
      · exact List.length_eq_zero_iff.1 (by omega)
    subst hn
    go_enter Try.func40, Try.ntmps40
    go_wp2
    go_ret
    exact ⟨_, rfl, ⟨L, HA.out, (by have e : L = [] := List.length_eq_zero_iff.1 HL.out; rw [e]; exact World.ownsRow_nil _ _ _ _)⟩, Below.refl _ _⟩
  | some ad =>
    have hb : IsAny encV 8 (w.alloc (.cells #[] 61)) (.slice (some ad) P.length cap) L := by
      obtain ⟨a, c, e, hc⟩ := HY.out
      refine ⟨a, c, e, fun hne => ?_⟩
      obtain ⟨b, off, e2, hc2⟩ := hc hne
      refine ⟨b, off, e2, fun i hi j u hu => ?_⟩
      have := hc2 i hi j u hu
      rw [(below_box (w := w) (.cells #[] 61)).cell (p := ⟨b, off + i * 8 + j, none⟩) (by exact cell_lt this)]
      exact this
    have HB := Lib.hid hb
    clear hb
    go_enter Try.func40, Try.ntmps40
    go_wp2_with (at_builtin; refine append_any (en := encV) rfl _ _ 27 61 _ 8 136 infoSl Try.underlying27 rfl (by decide) (by decide) encV_len encV_one rfl w.heap.size _ [] rfl (own_emptySl w w.heap.size (Nat.le_refl _)) _ L rfl HB.out (by rw [HL.out]; simp; omega) (by simp) ?_; intro v' w1 hown hbel)
    have Hown := Lib.hid hown
    have Hbel : Hid (Below w.heap.size w w1) := Lib.hid ((below_box _).trans hbel)
    clear hown hbel
    go_wp2
    go_ret
    exact ⟨_, rfl, ⟨L, HA.out, by have := Hown.out; rwa [List.nil_append, HL.out] at this⟩, Hbel.out⟩

set_option maxHeartbeats 1000000 in
theorem used_w (v : Value) (P : List Sl) (i : Int) (w : World) (h : IsSlots w v P) :
    Calls Try.prog 39 #[poolV v, .int .i64 i] w fun e w' => e = .returned (.bool (usedB P i)) ∧ Below w.heap.size w w' := by
  have mixed := mixedA
  by_cases h0 : 0 ≤ i
  · obtain ⟨k, rfl⟩ : ∃ k : Nat, i = k := ⟨i.toNat, by omega⟩
    have hd0 : decide ((0 : Int) ≤ (k : Int)) = true := by simp
    by_cases hk : k < P.length
    · obtain ⟨b, off, cap, s, rfl, hlt, hm, hs, c0, -⟩ := slot_at (h.below (below_box (.cells #[v] 29))) k hk
      have hkz : (k : Int) < (P.length : Int) := by omega
      have HU : Hid (usedB P (k : Int) = s.used) := Lib.hid (by rw [usedB_nat, hs.used])
      clear h hs
      go_enter Try.func39, Try.ntmps39
      go_wp2
      go_ret
      exact ⟨ret_bool (by rw [HU.out]), below_box _⟩
    · have hkz : (P.length : Int) ≤ (k : Int) := by omega
      obtain ⟨a, cap, rfl, -, -, hm⟩ := h.slice
      have HU : Hid (usedB P (k : Int) = false) := Lib.hid (by rw [usedB_nat, atP_ge (by omega)]; rfl)
      clear h
      go_enter Try.func39, Try.ntmps39
      go_wp2
      go_ret
      exact ⟨ret_bool (by rw [HU.out]), below_box _⟩
  · have hz : i < 0 := by omega
    obtain ⟨a, cap, rfl, -, -, hm⟩ := h.slice
    have HU : Hid (usedB P i = false) := Lib.hid (by unfold usedB; simp; omega)
    clear h
    go_enter Try.func39, Try.ntmps39
    go_wp2
    go_ret
    exact ⟨ret_bool (by rw [HU.out]), below_box _⟩

end Go.Proofs.Ytlgangcldlphnaa

/-
  The walk of the law EntryDecodes.
-/
import Derived.Test.YtachicdkgkiiiaaEWB
import Derived.Test.YtachicdkgkiiiaaES2
import Derived.Test.YtachicdkgkiiiaaEF
namespace Go.Proofs.Ytachicdkgkiiiaa
open Go.RowKit Go.Sort
set_option linter.unusedVariables false

theorem conv_u8s {n c : Nat} (W : World) (T : TypeId) (xs : List Int) (h : n = W.heap.size) :
    (convert 43 9 (.slice (some ⟨n, 0, none⟩) xs.length c)).run Try.prog (W.alloc (.cells (xs.map (Value.int .u8)).toArray T)) =
      .ok (.string (Str (xs.map fun x => UInt8.ofNat x.toNat))) (W.alloc (.cells (xs.map (Value.int .u8)).toArray T)) := by
  subst h
  rw [run_convert_bytes_arg (P := Try.prog) _ 43 5 Try.underlying43 Try.underlying5 W.heap.size 0 xs.length c xs rfl (fun i hi => by
    rw [Nat.zero_add, World.cell?_alloc_new]; simp [hi]) 9 Try.underlying9]
  rfl
theorem conv1 {n c : Nat} (W : World) (T : TypeId) (a : Int) (h : n = W.heap.size) :
    (convert 43 9 (.slice (some ⟨n, 0, none⟩) 1 c)).run Try.prog (W.alloc (.cells #[.int .u8 a] T)) =
      .ok (.string (Str [UInt8.ofNat a.toNat])) (W.alloc (.cells #[.int .u8 a] T)) := conv_u8s W T [a] h
theorem Str_append (a b : Bs) : Str a ++ Str b = Str (a ++ b) := by
  rw [← Str_toList (Str a ++ Str b)]
  congr 1
  rw [Lib.toList_data]; simp [Str]
theorem Str_lit (a b : Bs) : Str a ++ (⟨b.toArray⟩ : ByteArray) = Str (a ++ b) := Str_append a b
theorem lit_Str (a b : Bs) : (⟨b.toArray⟩ : ByteArray) ++ Str a = Str (b ++ a) := Str_append b a
attribute [go_sem] conv1 Str_append Str_lit lit_Str

theorem validE_len {e : Ent} (h : validE e = true) : e.text.length ≤ 50 := by
  obtain ⟨k, s, l, i, o, t⟩ := e
  rcases validE_kind h with rfl | rfl | rfl | rfl
  · rw [(validE_dir h).2.2.2]; simp
  · rw [(validE_file h).2.2.2.2.2]; simp
  · exact (textB_len (validE_sym h).2.2.2).2
  · rw [(validE_link h).2.2.1]; simp

set_option maxRecDepth 100000 in
set_option maxHeartbeats 2000000 in
theorem entryDecodes_walk (w : World) (v0 : Value) (n : Nat) (h0 : IsU8 w v0 n) (v1 : Value) (s : Bs) (h1 : IsStr w v1 s) :
    Calls Try.prog 5 #[v0, v1] w fun e w' => e = .returned (.bool true) ∧ Below w.heap.size w w' := by
  obtain ⟨rfl, hn⟩ := h0
  obtain ⟨rfl, hs⟩ := h1
  by_cases hlong : 60 < s.length
  · have hl : (60 : Int) < (s.length : Int) := by omega
    clear hlong
    go_enter Try.func5, Try.ntmps5
    go_wp2_with (go_at_call 10; refine (sanity_w _).mono ?_; rintro e w1 ⟨rfl, hb⟩)
    go_ret
    exact ⟨rfl, hb⟩
  · have hl : (s.length : Int) ≤ 60 := by omega
    have hdw := fun wx => decode_w (UInt8.ofNat n % 6 :: s) wx (by simp; omega)
    clear hs hlong
    generalize hV : UInt8.ofNat n % 6 :: s = V at hdw
    have HV := Lib.hid hV
    clear hV
    rcases decE_cases V with h | ⟨⟨k, sz, lk, i, o, t⟩, h, hv, hval⟩
    · have e : decR V = .tuple #[.agg #[.int .i64 0, .int .i64 0, .int .i64 0, .int .i64 0, .int .i64 0, .string (Str [])], .int .i64 30] := by unfold decR; rw [h]; rfl
      rw [e] at hdw
      have Hdw := Lib.hid hdw
      clear hdw h e
      go_enter Try.func5, Try.ntmps5
      go_wp2_with (first
        | (go_at_call 10; refine (sanity_w _).mono ?_; rintro e w1 ⟨rfl, hb1⟩; have Hb1 := Lib.hid hb1; clear hb1)
        | (go_at_call 15; rw [HV.out]; refine (Hdw.out _).mono ?_; rintro e w2 ⟨rfl, hb2⟩; have Hb2 := Lib.hid hb2; clear hb2))
      go_ret
      refine ⟨rfl, ?_⟩
      have h1 := Hb1.out.size
      have h2 := Hb2.out.size
      simp at h2
      exact (Below.trans (Hb1.out.alloc h1 _) (Hb2.out.mono (by simp; omega))).alloc (by omega) _
    · have e : decR V = .tuple #[.agg #[.int .i64 k, .int .i64 sz, .int .i64 lk, .int .i64 i, .int .i64 o, .string (Str t)], .int .i64 0] := by unfold decR; rw [h]
      rw [e] at hdw
      have ht := validE_len hv
      simp only at ht
      have hen := fun wx => encode_w k sz lk i o t wx (by unfold maxLen; omega)
      have hva := fun wx => valid_w k sz lk i o t wx (by unfold maxLen; omega)
      rw [show encE ⟨k, sz, lk, i, o, t⟩ = (V, 0) from by unfold encE; rw [if_pos hv, hval]] at hen
      rw [hv] at hva
      simp only at hen
      have Hdw := Lib.hid hdw
      have Hen := Lib.hid hen
      have Hva := Lib.hid hva
      clear hdw h e hen hva hv hval ht
      go_enter Try.func5, Try.ntmps5
      go_wp2_with (first
        | (go_at_call 10; refine (sanity_w _).mono ?_; rintro e w1 ⟨rfl, hb1⟩; have Hb1 := Lib.hid hb1; clear hb1)
        | (go_at_call 15; rw [HV.out]; refine (Hdw.out _).mono ?_; rintro e w2 ⟨rfl, hb2⟩; have Hb2 := Lib.hid hb2; clear hb2)
        | (go_at_call 13; refine (Hen.out _).mono ?_; rintro e w3 ⟨rfl, hb3⟩; have hd := Blk.below (Blk.new w2 23 #[.int .i64 k, .int .i64 sz, .int .i64 lk, .int .i64 i, .int .i64 o, .string (Str t)]) hb3 (by simp); have c0 := hd.c0 0 _ rfl; have c1 := hd.c0 1 _ rfl; have c2 := hd.c0 2 _ rfl; have c3 := hd.c0 3 _ rfl; have c4 := hd.c0 4 _ rfl; have c5 := hd.c0 5 _ rfl; simp at c0 c1 c2 c3 c4 c5; have Hb3 := Lib.hid hb3; clear hb3 hd)
        | (go_at_call 17; refine (Hva.out _).mono ?_; rintro e w4 ⟨rfl, hg4⟩; have Hg4 := Lib.hid hg4; clear hg4))
      go_ret
      refine ⟨rfl, ?_⟩
      have h1 := Hb1.out.size
      have h2 := Hb2.out.size
      have h3 := Hb3.out.size
      simp at h2 h3
      exact (((Below.trans (Hb1.out.alloc h1 _) (Hb2.out.mono (by simp; omega))).alloc (by omega) _).trans (Hb3.out.mono (by simp; omega))).trans (Hg4.out.below (by omega))

end Go.Proofs.Ytachicdkgkiiiaa

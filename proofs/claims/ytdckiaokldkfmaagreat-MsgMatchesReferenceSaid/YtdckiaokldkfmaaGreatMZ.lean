/-
  Walks: the reader of bytes.
-/
import Derived.Test.YtdckiaokldkfmaaGreatMY2
namespace Go.Proofs.YtdckiaokldkfmaaGreat
open Go.RowKit Go.Sort
set_option linter.unusedVariables false

/-- Only block b may have turned. -/
structure Only (b : Nat) (w w' : World) : Prop where
  os : w'.os = w.os
  tape : w'.tape = w.tape
  output : w'.output = w.output
  size : w'.heap.size = w.heap.size
  block : ∀ k, k ≠ b → w'.heap[k]? = w.heap[k]?
theorem Only.refl (b : Nat) (w : World) : Only b w w := ⟨rfl, rfl, rfl, rfl, fun _ _ => rfl⟩
theorem Only.trans {b : Nat} {x y z : World} (h : Only b x y) (k : Only b y z) : Only b x z :=
  ⟨k.os.trans h.os, k.tape.trans h.tape, k.output.trans h.output, k.size.trans h.size, fun i hi => (k.block i hi).trans (h.block i hi)⟩
theorem Only.setCell (b i : Nat) (v : Value) (w : World) : Only b w (w.setCell ⟨b, i, none⟩ v) :=
  ⟨rfl, rfl, rfl, by simp [World.setCell], fun k hk => Below.heap_setCell _ _ _ _ hk⟩
theorem Only.drewN (b n : Nat) (w : World) : Only b w (w.drewN n) := ⟨rfl, rfl, rfl, rfl, fun _ _ => rfl⟩
theorem Only.below {b B : Nat} {w w' : World} (h : Only b w w') (hB : B ≤ b) : Below B w w' :=
  ⟨h.os, h.tape, h.output, Nat.le_of_eq h.size.symm, fun k hk => h.block k (by omega)⟩
theorem Blk.only {w w' : World} {b c : Nat} {T : TypeId} {cs : Array Value} (h : Blk w b T cs) (ho : Only c w w') (hc : b ≠ c) : Blk w' b T cs := by
  unfold Blk; rw [ho.block b hc]; exact h
/-- A slice of bytes. -/
def IsBytes (w : World) (v : Value) (l : Bs) : Prop :=
  ∃ a cap, v = .slice a l.length cap ∧ l.length ≤ cap ∧ cap ≤ maxLen ∧ (l ≠ [] → ∃ b off, a = some ⟨b, off, none⟩ ∧ b < w.heap.size ∧ ∀ i (h : i < l.length), w.cell? ⟨b, off + i, none⟩ = some (.int .u8 (l[i].toNat)))
theorem IsBytes.below {w w' : World} {v : Value} {l : Bs} (h : IsBytes w v l) (hb : Below w.heap.size w w') : IsBytes w' v l := by
  obtain ⟨a, cap, h1, h2, h3, h4⟩ := h
  refine ⟨a, cap, h1, h2, h3, fun hl => ?_⟩
  obtain ⟨b, off, e, hlt, hc⟩ := h4 hl
  exact ⟨b, off, e, Nat.lt_of_lt_of_le hlt hb.size, fun i hi => by rw [hb.cell (by exact hlt)]; exact hc i hi⟩
theorem IsBytes.form {w : World} {v : Value} {l : Bs} (h : IsBytes w v l) : ∃ b off cap a, v = .slice a l.length cap ∧ l.length ≤ cap ∧ cap ≤ maxLen ∧ (l ≠ [] → a = some ⟨b, off, none⟩ ∧ b < w.heap.size) ∧
    ∀ i (h : i < l.length), a = some ⟨b, off, none⟩ ∧ w.cell? ⟨b, off + i, none⟩ = some (.int .u8 (l[i].toNat)) := by
  obtain ⟨a, cap, h1, h2, h3, h4⟩ := h
  by_cases hl : l = []
  · subst hl; exact ⟨0, 0, cap, a, h1, h2, h3, fun h => absurd rfl h, fun i hi => absurd hi (by simp)⟩
  · obtain ⟨b, off, e, hlt, hc⟩ := h4 hl
    exact ⟨b, off, cap, a, h1, h2, h3, fun _ => ⟨e, hlt⟩, fun i hi => ⟨e, hc i hi⟩⟩
theorem IsBytes.nil (w : World) : IsBytes w (.slice none 0 0) [] := ⟨none, 0, rfl, Nat.le_refl _, by unfold maxLen; omega, fun h => absurd rfl h⟩
theorem IsBytes.only {w w' : World} {v x : Value} {l : Bs} {rb : Nat} {T : TypeId} {y : Bool} (h : IsBytes w v l) (hb : Blk w rb T #[x, .bool y]) (hx : ∃ p n c, x = .slice p n c) (ho : Only rb w w') : IsBytes w' v l := by
  obtain ⟨a, cap, h1, h2, h3, h4⟩ := h
  refine ⟨a, cap, h1, h2, h3, fun hl => ?_⟩
  obtain ⟨b, off, e, hlt, hc⟩ := h4 hl
  have hne : b ≠ rb := by
    rintro rfl
    obtain ⟨p, n, c, rfl⟩ := hx
    have h0 := hc 0 (List.length_pos_iff.2 hl)
    rw [hb.cell] at h0
    have h01 : off = 0 ∨ off = 1 ∨ 2 ≤ off := by omega
    rcases h01 with rfl | rfl | h2
    · simp at h0
    · simp at h0
    · rw [Array.getElem?_eq_none (by simp; omega)] at h0; cases h0
  refine ⟨b, off, e, by rw [ho.size]; exact hlt, fun i hi => ?_⟩
  have := hc i hi
  unfold World.cell? at this ⊢
  simp only at this ⊢
  rw [ho.block b hne]; exact this
theorem IsBytes.sliced {w : World} {a : Option Addr} {n cap : Nat} {l : Bs} (h : IsBytes w (.slice a n cap) l) (lo hi : Nat) (h1 : lo ≤ hi) (h2 : hi ≤ l.length) :
    IsBytes w (sliced a lo hi cap 1) ((l.take hi).drop lo) := by
  obtain ⟨a', cap', e, hlc, hcm, hc⟩ := h
  cases e
  have hll : ((l.take hi).drop lo).length = hi - lo := by rw [List.length_drop, List.length_take]; omega
  refine ⟨_, cap - lo, by rw [hll]; rfl, by omega, by omega, fun hne => ?_⟩
  have hlt : lo < hi := by
    rcases Nat.lt_or_ge lo hi with h | h
    · exact h
    · exfalso; apply hne; apply List.length_eq_zero_iff.1; omega
  obtain ⟨b, off, rfl, hb, hcell⟩ := hc (by rintro rfl; simp at h2; omega)
  have hadd : (⟨b, off, none⟩ : Addr).add lo = ⟨b, off + lo, none⟩ := by unfold Addr.add; split <;> simp_all
  refine ⟨b, off + lo, by rw [if_neg (by omega)]; simp [hadd], hb, fun i hi' => ?_⟩
  have hc3 := hcell (lo + i) (by rw [hll] at hi'; omega)
  rw [Nat.add_assoc, hc3]
  simp
theorem sizeB : (sizeOf (Tryz.prog.elem 48)) = sizeOf 5 := by
  rw [show Tryz.prog.elem 48 = 5 by kernel_rfl]
theorem elemB : Tryz.prog.underlying 48 = some (.slice (Tryz.prog.elem 48)) := by
  rw [show Tryz.prog.elem 48 = 5 by kernel_rfl]; exact Tryz.underlying48
theorem bslice_h (a : Option Addr) (n cap hi : Nat) (h2 : hi ≤ cap) (h3 : cap ≤ maxLen) (w : World) : (Instr.slice 48 (.slice a n cap) none (some (.int .i64 hi)) none).run Tryz.prog w = .ok (sliced a 0 hi cap 1) w := by
  rw [run_slice_h w 48 a n cap elemB .i64 hi (by omega) (by omega), sizeB, Tryz.sizeOf5]; rfl
theorem bslice_l (a : Option Addr) (n cap lo : Nat) (h2 : lo ≤ n) (w : World) : (Instr.slice 48 (.slice a n cap) (some (.int .i64 lo)) none none).run Tryz.prog w = .ok (sliced a lo n cap 1) w := by
  rw [run_slice_l w 48 a n cap elemB .i64 lo (by omega) (by omega), sizeB, Tryz.sizeOf5]; rfl

/-- What is left, and whether there was too little. -/
abbrev RS := Bs × Bool
def takeP (k : Nat) (s : RS) : Bs × RS := if s.1.length < k then ([], (s.1, true)) else (s.1.take k, (s.1.drop k, s.2))
def numP (k : Nat) (s : RS) : Nat × RS := (numF (takeP k s).1, (takeP k s).2)
def textP (s : RS) : Bs × RS := takeP (numP 2 s).1 (numP 2 s).2
/-- The reader that block rb is. -/
def Rd (w : World) (rb : Nat) (s : RS) : Prop := ∃ p n c, Blk w rb 100 #[.slice p n c, .bool s.2] ∧ IsBytes w (.slice p n c) s.1
def TakeOut (rb : Nat) (w : World) (x : Bs × RS) (e : Ending) (w' : World) : Prop := ∃ v, e = .returned v ∧ IsBytes w' v x.1 ∧ Rd w' rb x.2 ∧ Only rb w w'

set_option maxRecDepth 100000 in
set_option maxHeartbeats 2000000 in
theorem take_w (rb k : Nat) (s : RS) (w : World) (h : Rd w rb s) (hk : k ≤ 100000) : Calls Tryz.prog 73 #[ptrV rb, .int .i64 k] w (TakeOut rb w (takeP k s)) := by
  obtain ⟨l, sh⟩ := s
  obtain ⟨p, n, c, hb, hl⟩ := h
  simp only at hb hl
  have HB := Lib.hid hb
  have HL := Lib.hid hl
  obtain ⟨a', cap', he, hlc, hcm, -⟩ := id hl
  cases he
  have hcm' := hcm
  unfold maxLen at hcm
  have c0 : w.cell? ⟨rb, 0, none⟩ = some (.slice p l.length c) := hb.c0 0 _ rfl
  have c1 : w.cell? ⟨rb, 1, none⟩ = some (.bool sh) := hb.c0 1 _ rfl
  have f0 := hb.free 0
  have f1 := hb.free 1
  clear hb hl
  by_cases hlt : l.length < k
  · have hltz : (l.length : Int) < (k : Int) := by omega
    have H : Hid (takeP k (l, sh) = ([], (l, true))) := Lib.hid (by unfold takeP; rw [if_pos (by exact hlt)])
    go_enter Tryz.func73, Tryz.ntmps73
    go_wp2
    go_ret
    rw [H.out]
    refine ⟨_, rfl, IsBytes.nil _, ⟨p, l.length, c, HB.out.setCell 1 (.bool true), ?_⟩, Only.setCell _ _ _ _⟩
    exact HL.out.only HB.out ⟨_, _, _, rfl⟩ (Only.setCell _ _ _ _)
  · have hkl : k ≤ l.length := by omega
    have hltz : ¬ (l.length : Int) < (k : Int) := by omega
    have H : Hid (takeP k (l, sh) = (l.take k, (l.drop k, sh))) := Lib.hid (by unfold takeP; rw [if_neg (by exact hlt)])
    obtain ⟨p1, m1, c1', hV1⟩ : ∃ p1 m1 c1, Value.slice p1 m1 c1 = sliced p 0 k c 1 := ⟨_, _, _, rfl⟩
    obtain ⟨p2, m2, c2', hV2⟩ : ∃ p2 m2 c2, Value.slice p2 m2 c2 = sliced p k l.length c 1 := ⟨_, _, _, rfl⟩
    have hs1 := bslice_h p l.length c k (by omega) hcm'
    have hs2 := bslice_l p l.length c k hkl
    rw [← hV1] at hs1
    rw [← hV2] at hs2
    have HV1 : Hid (IsBytes w (.slice p1 m1 c1') (l.take k)) := Lib.hid (by rw [hV1]; have := HL.out.sliced 0 k (Nat.zero_le _) hkl; simpa using this)
    have HV2 : Hid (IsBytes w (.slice p2 m2 c2') (l.drop k)) := Lib.hid (by rw [hV2]; have := HL.out.sliced k l.length hkl (Nat.le_refl _); rwa [List.take_length] at this)
    clear hV1 hV2 hlt hcm'
    go_enter Tryz.func73, Tryz.ntmps73
    go_wp2
    go_ret
    rw [H.out]
    refine ⟨_, rfl, HV1.out.only HB.out ⟨_, _, _, rfl⟩ (Only.setCell _ _ _ _), ⟨p2, m2, c2', HB.out.setCell 0 (.slice p2 m2 c2'), ?_⟩, Only.setCell _ _ _ _⟩
    exact HV2.out.only HB.out ⟨_, _, _, rfl⟩ (Only.setCell _ _ _ _)

end Go.Proofs.YtdckiaokldkfmaaGreat
